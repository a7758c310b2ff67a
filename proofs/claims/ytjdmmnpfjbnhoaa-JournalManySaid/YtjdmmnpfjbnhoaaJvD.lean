/- Package journal, the program: rows of octets' lists and of puts, of the call's own. -/
import Derived.Test.YtjdmmnpfjbnhoaaJvC
import Derived.Test.YtjdmmnpfjbnhoaaDvP3
namespace Go.Proofs.Ytjdmmnpfjbnhoaa
open Go.RowKit

/-- v reads as the octets, which lie in a block of octets, one of G's. -/
def OBk (G : Nat → Prop) (w : World) (v : Value) (l : List UInt8) : Prop := ∃ (b o cap : Nat) (C : Array Value) (fr : Nat × Nat), v = .slice (some ⟨b, o, none⟩) l.length cap ∧ l.length ≤ cap ∧ cap ≤ 9223372036854775807 ∧ G b ∧ w.heap[b]? = some (.cells C 5 fr) ∧ ∀ j (hj : j < l.length), C[o + j]? = some (.int .u8 (l[j].toNat : Int))
section
variable {F G G' : Nat → Prop} {n₀ : Nat} {w w' : World} {v : Value} {l : List UInt8} {puts : List Jr.Put} {ls : List (List UInt8)}
theorem OBk.keep (h : OBk G w v l) (hF : ∀ k, G k → G' k) (hk : ∀ k C fr, G k → w.heap[k]? = some (.cells C 5 fr) → w'.heap[k]? = w.heap[k]?) : OBk G' w' v l := by
  obtain ⟨b, o, cap, C, fr, h1, h2, h3, h4, h5, h6⟩ := h
  exact ⟨b, o, cap, C, fr, h1, h2, h3, hF b h4, by rw [hk b C fr h4 h5]; exact h5, h6⟩
theorem OBk.bin (h : OBk G w v l) : BIn w v l ∧ NilOk v := by
  obtain ⟨b, o, cap, C, fr, h1, h2, h3, h4, h5, h6⟩ := h
  refine ⟨⟨_, cap, h1, h2, h3, .inr ⟨b, o, rfl, lt_of_block h5, fun j hj => ?_⟩⟩, by rw [h1]; exact fun c h => by injection h with h; cases h⟩
  simp only [World.cell?, h5]
  simpa using h6 j hj
theorem OBk.bout (h : OBk G w v l) (hF : ∀ k, G k → ¬ F k) : BOut F w v l := by
  refine ⟨h.bin.1, h.bin.2, fun ad n c e _ => ?_⟩
  obtain ⟨b, o, cap, C, fr, h1, h2, h3, h4, h5, h6⟩ := h
  rw [h1] at e
  cases e
  exact hF b h4
theorem OBk.one (h : OBk G w v l) : v.oneCell' = true := by
  obtain ⟨b, o, cap, C, fr, h1, _⟩ := h
  rw [h1]; rfl
theorem own_obk (h : w.ownsRow n₀ 5 1 v l.length (Lib.byteCells l)) (hv : v ≠ .slice none 0 0) (hG : ∀ k, n₀ ≤ k → G k) : OBk G w v l := by
  rcases h.2 with ⟨h0, _⟩ | ⟨g, cap, cur, hv', hg, hh, h1, h2, h3, h4⟩
  · exact absurd h0 hv
  · refine ⟨g, 0, cap, cur, (0, 0), hv', h1, by unfold maxLen at h2; omega, hG g hg, hh, fun j hj => ?_⟩
    have h5 : cur.toList[j]? = some (.int .u8 (l[j].toNat : Int)) := by
      have h6 : (cur.toList.take (l.length * 1))[j]? = (Lib.byteCells l)[j]? := by rw [h4]
      rw [List.getElem?_take_of_lt (by omega)] at h6
      rw [h6]; simp [Lib.byteCells, hj]
    rw [Nat.zero_add]
    simpa using h5
theorem Buf.obk {W : World} (h : Buf W w v l) (hv : v ≠ .slice none 0 0) (hG : ∀ k, W.heap.size ≤ k → G k) : OBk G w v l := own_obk h.1 hv hG
theorem Blk.obk {g n : Nat} (h : Blk w g l) (hn : n = l.length) (h9 : n ≤ 1000000) (hG : G g) : OBk G w (.slice (some ⟨g, 0, none⟩) n n) l := by
  obtain ⟨C, h1, h2, h3⟩ := h
  subst hn
  refine ⟨g, 0, l.length, C, (0, 0), rfl, Nat.le_refl _, by omega, hG, h1, fun j hj => ?_⟩
  have h5 : C.toList[j]? = some (.int .u8 (l[j].toNat : Int)) := by
    have h6 : (C.toList.take l.length)[j]? = (Lib.byteCells l)[j]? := by rw [h3]
    rw [List.getElem?_take_of_lt hj] at h6
    rw [h6]; simp [Lib.byteCells, hj]
  rw [Nat.zero_add]
  simpa using h5

/-- 'append', told where the row lies. -/
theorem wpList_append_whose {ops : Array Oper} {rest : List Oper} {o : Oper} {a : Act} {Q : Exit → Act → World → Prop} (w : World) (hgd : o.guard = none) (s x : Operand) (t : TypeId)
    (ho : o.op = .call { callee := .builtin .append, args := #[s, x], argTypes := #[t, t] })
    (e : TypeId) (i : TypeInfo) (z : Value) (size bytes : Nat) (ht : Try.prog.underlying t = some (.slice e)) (hi : Try.prog.info? e = some i) (hz : i.zero = some z)
    (hsize : i.size = size) (hby : i.bytes = bytes) (hzs : z.cells.size = size) (hsz : 0 < size)
    (v : Value) (n : Nat) (xs : List Value) (hs : a.eval s = v) (hown : w.ownsRow 0 e size v n xs)
    (ad : Addr) (m c : Nat) (news : List Value) (hx : a.eval x = .slice (some ad) m c) (hl : news.length = m * size) (hnews : ∀ j u, news[j]? = some u → w.cell? (ad.add j) = some u) (h1 : ∀ u ∈ news, u.oneCell' = true)
    (h63 : n + m ≤ maxLen) (hbytes : (n + m) * bytes ≤ 140737488355328)
    (h : ∀ v' w', w'.ownsRow 0 e size v' (n + m) (xs ++ news) → w.grownBy w' v.ownBlock → (∀ k, v'.ownBlock = some k → v.ownBlock = some k ∨ w.heap.size ≤ k) → wpList Try.prog ops Q rest (a.put o.dst v') w') : wpList Try.prog ops Q (o :: rest) a w :=
  wpList_plain hgd fun _ hK => wp_append_whose w s x t ho e i z size bytes ht hi hz hsize hby hzs hsz v n xs hs hown ad m c news hx hl hnews h1 h63 hbytes (fun v' w' h1 h2 h3 => hK _ _ (h v' w' h1 h2 h3))

/-! ### rows of octets' lists -/
theorem slices_info : (Try.prog.info? 22).map (fun i => (i.zero, i.size, i.bytes)) = some (some (.slice none 0 0), 1, 24) := by kernel_rfl
def SRow (G : Nat → Prop) (w : World) (v : Value) (ls : List (List UInt8)) : Prop := ∃ us : List Value, us.length = ls.length ∧ w.ownsRow 0 22 1 v ls.length us ∧ (∀ k, v.ownBlock = some k → G k) ∧ ∀ i (h1 : i < us.length) (h2 : i < ls.length), OBk G w us[i] ls[i]
theorem row_block {T : TypeId} {sz n k : Nat} {xs : List Value} (h : w.ownsRow n₀ T sz v n xs) (hk : v.ownBlock = some k) : ∃ C, w.heap[k]? = some (.cells C T (0, 0)) := by
  rcases h.2 with ⟨hv, _⟩ | ⟨g, cap, cur, hv, _, hh, _⟩
  · rw [hv] at hk; cases hk
  · rw [hv] at hk; cases hk; exact ⟨cur, hh⟩
theorem SRow.keep (h : SRow G w v ls) (hG : ∀ k, G k → G' k) (hk : ∀ k, G k → k < w.heap.size → w'.heap[k]? = w.heap[k]?) : SRow G' w' v ls := by
  obtain ⟨us, h1, h2, h3, h4⟩ := h
  exact ⟨us, h1, ownsRow_keep h2 (fun k hv => hk k (h3 k hv) (World.ownsRow.lt h2 k hv).2), fun k hv => hG k (h3 k hv), fun i i1 i2 => (h4 i i1 i2).keep hG (fun k C fr hg hc => hk k hg (lt_of_block hc))⟩
theorem SRow.lt (h : SRow G w v ls) (hG : ∀ k, G k → n₀ ≤ k) : ∀ k, v.ownBlock = some k → n₀ ≤ k := fun k hk => hG k (h.choose_spec.2.2.1 k hk)
theorem SRow.bs (h : SRow G w v ls) (hF : ∀ k, G k → ¬ F k) : BsOut F w v ls := by
  obtain ⟨us, h1, h2, h3, h4⟩ := h
  rcases h2.2 with ⟨hv, h0⟩ | ⟨g, cap, cur, hv, hg, hh, h5, h6, h7, h8⟩
  · exact ⟨none, 0, by rw [hv, h0], by omega, by decide, .inl (List.eq_nil_of_length_eq_zero h0)⟩
  · refine ⟨_, cap, hv, h5, by unfold maxLen at h6; omega, .inr ⟨g, 0, rfl, lt_of_block hh, hF g (h3 g (by rw [hv]; rfl)), fun j hj => ?_⟩⟩
    refine ⟨us[j]'(by omega), ?_, (h4 j (by omega) hj).bout hF⟩
    have h9 : cur.toList[j]? = some (us[j]'(by omega)) := by
      have h6 : (cur.toList.take (ls.length * 1))[j]? = us[j]? := by rw [h8]
      rw [List.getElem?_take_of_lt (by omega)] at h6
      rw [h6, List.getElem?_eq_getElem]
    rw [Nat.zero_add]
    simp only [World.cell?, hh]
    simpa using h9
theorem SRow.later (h : SRow G w v ls) (hb : Below w.heap.size w w') : SRow G w' v ls := h.keep (fun _ h => h) (fun k _ hk => hb.block k hk)
theorem OBk.later (h : OBk G w v l) (hb : Below w.heap.size w w') : OBk G w' v l := h.keep (fun _ h => h) (fun k _ _ _ hc => hb.block k (lt_of_block hc))
theorem OBk.mono (h : OBk G w v l) (hG : ∀ k, G k → G' k) : OBk G' w v l := h.keep hG (fun _ _ _ _ _ => rfl)
theorem SRow.nil (G : Nat → Prop) (w : World) : SRow G w (.slice none 0 0) [] := ⟨[], rfl, World.ownsRow_nil _ _ _ _, (fun k hk => by cases hk), fun i h1 _ => by cases h1⟩
theorem ne_uint8 {k : Nat} {T : TypeId} {C D : Array Value} {f f' : Nat × Nat} (hT : T ≠ 5) (h1 : w.heap[k]? = some (.cells C T f)) (h2 : w.heap[k]? = some (.cells D 5 f')) : False := ne_block h1 h2 hT rfl
theorem OBk.grown (h : OBk G w v l) {row : Option Nat} (hg : w.grownBy w' row) (hr : ∀ k, row = some k → ∃ (T : TypeId) (C : Array Value) (f : Nat × Nat), T ≠ 5 ∧ w.heap[k]? = some (.cells C T f)) : OBk G w' v l :=
  h.keep (fun _ h => h) fun k C fr _ hc => hg.block k (lt_of_block hc) (fun e => by
    obtain ⟨T, C9, f9, hT, h9⟩ := hr k e.symm
    exact ne_uint8 hT h9 hc)
theorem SRow.app {ops : Array Oper} {rest : List Oper} {o : Oper} {a : Act} {Q : Exit → Act → World → Prop} {y : Value} {x : List UInt8} {q : Nat} {f : Nat × Nat} (h : SRow G w v ls) (hq : w.heap[q]? = some (.cells #[y] 22 f)) (hy : OBk G w y x) (hl : ls.length ≤ 1000000) (hG : ∀ k, w.heap.size ≤ k → G k)
    (hgd : o.guard = none) (s z : Operand) (ho : o.op = .call { callee := .builtin .append, args := #[s, z], argTypes := #[43, 43] }) (hs : a.eval s = v) (hz : a.eval z = .slice (some ⟨q, 0, none⟩) 1 1)
    (hK : ∀ v' w', SRow G w' v' (ls ++ [x]) → w.grownBy w' v.ownBlock → wpList Try.prog ops Q rest (a.put o.dst v') w') : wpList Try.prog ops Q (o :: rest) a w := by
  obtain ⟨us, h1, h2, h3, h4⟩ := h
  obtain ⟨i0, hi0, hz0, hz1, hz2⟩ := info_parts slices_info
  refine wpList_append_whose w hgd s z 43 ho 22 i0 _ 1 24 Try.underlying43 hi0 hz0 hz1 hz2 rfl (by decide) v ls.length us hs h2 ⟨q, 0, none⟩ 1 1 [y] hz rfl (fun j u hj => ?_) (fun u hu => by rw [List.mem_singleton.1 hu]; exact hy.one) (by unfold maxLen; omega) (by omega) (fun v' w' g1 g2 g3 => hK v' w' ⟨us ++ [y], by simp [h1], by simpa using g1, fun k hk => ?_, fun i i1 i2 => ?_⟩ g2)
  · match j, hj with
    | 0, hj =>
      simp only [List.getElem?_cons_zero, Option.some.injEq] at hj
      subst hj
      simp [World.cell?, hq, Addr.add]
  · rcases g3 k hk with h | h
    · exact h3 k h
    · exact hG k h
  · have hrow : ∀ k, v.ownBlock = some k → ∃ (T : TypeId) (C : Array Value) (f : Nat × Nat), T ≠ 5 ∧ w.heap[k]? = some (.cells C T f) := fun k hk => by
      obtain ⟨C, hC⟩ := row_block h2 hk
      exact ⟨_, C, _, by decide, hC⟩
    by_cases hi : i < us.length
    · simp only [List.getElem_append_left hi, List.getElem_append_left (show i < ls.length by omega)]
      exact (h4 i hi (by omega)).grown g2 hrow
    · have e : i = us.length := by simp at i1; omega
      have e1 : (us ++ [y])[i] = y := by subst e; simp
      have e2 : (ls ++ [x])[i] = x := by simp [List.getElem_append_right (show ls.length ≤ i by omega), show i - ls.length = 0 by omega]
      rw [e1, e2]
      exact hy.grown g2 hrow

/-! ### rows of puts -/
def pc (x : Jr.Put × Value) : List Value := [.int .i64 (x.1.1 : Int), x.2]
def PRow (G : Nat → Prop) (w : World) (v : Value) (puts : List Jr.Put) : Prop := ∃ us : List Value, us.length = puts.length ∧ w.ownsRow 0 37 2 v puts.length ((puts.zip us).flatMap pc) ∧ (∀ k, v.ownBlock = some k → G k) ∧ ∀ i (h1 : i < us.length) (h2 : i < puts.length), OBk G w us[i] puts[i].2
theorem PRow.nil (G : Nat → Prop) (w : World) : PRow G w (.slice none 0 0) [] := ⟨[], rfl, World.ownsRow_nil _ _ _ _, (fun k hk => by cases hk), fun i h1 _ => by cases h1⟩
theorem PRow.keepT (h : PRow G w v puts) (hG : ∀ k, G k → G' k) (hk : ∀ k C T f, G k → w.heap[k]? = some (.cells C T f) → T = 37 ∨ T = 5 → w'.heap[k]? = w.heap[k]?) : PRow G' w' v puts := by
  obtain ⟨us, h1, h2, h3, h4⟩ := h
  exact ⟨us, h1, ownsRow_keep h2 (fun k hv => by
    obtain ⟨C, hC⟩ := row_block h2 hv
    exact hk k C _ _ (h3 k hv) hC (.inl rfl)), fun k hv => hG k (h3 k hv), fun i i1 i2 => (h4 i i1 i2).keep hG (fun k C fr hg hc => hk k C _ fr hg hc (.inr rfl))⟩
theorem PRow.type (h : PRow G w v puts) {k : Nat} (hk : v.ownBlock = some k) : ∃ C, w.heap[k]? = some (.cells C 37 (0, 0)) := row_block h.choose_spec.2.1 hk
theorem PRow.own (h : PRow G w v puts) (hG : ∀ k, G k → n₀ ≤ k) : ∀ k, v.ownBlock = some k → n₀ ≤ k := fun k hk => hG k (h.choose_spec.2.2.1 k hk)
theorem PRow.keep (h : PRow G w v puts) (hG : ∀ k, G k → G' k) (hk : ∀ k, G k → k < w.heap.size → w'.heap[k]? = w.heap[k]?) : PRow G' w' v puts := by
  obtain ⟨us, h1, h2, h3, h4⟩ := h
  exact ⟨us, h1, ownsRow_keep h2 (fun k hv => hk k (h3 k hv) (World.ownsRow.lt h2 k hv).2), fun k hv => hG k (h3 k hv), fun i i1 i2 => (h4 i i1 i2).keep hG (fun k C fr hg hc => hk k hg (lt_of_block hc))⟩
theorem PRow.later (h : PRow G w v puts) (hb : Below w.heap.size w w') : PRow G w' v puts := h.keep (fun _ h => h) (fun k _ hk => hb.block k hk)
theorem PRow.shape (h : PRow G w v puts) : ∃ a c, v = .slice a puts.length c ∧ puts.length ≤ c ∧ c ≤ 9223372036854775807 := own_shape h.choose_spec.2.1
theorem PRow.out (h : PRow G w v puts) (hF : ∀ k, G k → ¬ F k) : PutsOut F w v puts := by
  obtain ⟨us, h1, h2, h3, h4⟩ := h
  rcases h2.2 with ⟨hv, h0⟩ | ⟨g, cap, cur, hv, hg, hh, h5, h6, h7, h8⟩
  · exact ⟨none, 0, by rw [hv, h0], by omega, by decide, .inl (List.eq_nil_of_length_eq_zero h0)⟩
  · refine ⟨_, cap, hv, h5, by unfold maxLen at h6; omega, .inr ⟨g, 0, rfl, lt_of_block hh, hF g (h3 g (by rw [hv]; rfl)), fun k hk => ?_⟩⟩
    have hz : k < (puts.zip us).length := by rw [List.length_zip]; omega
    have hfl := fun j (hj : j < 2) => Dv.flat_at (f := pc) (c := 2) (ls := puts.zip us) (fun x _ => rfl) k j hz hj
    have h9 : ∀ j, j < 2 → cur[k * 2 + j]? = (pc (puts.zip us)[k])[j]? := fun j hj => by
      rw [← hfl j hj, ← h8, List.getElem?_take_of_lt (by omega)]
      simp
    have e : (puts.zip us)[k] = (puts[k], us[k]'(by omega)) := by simp
    rw [e] at h9
    refine ⟨us[k]'(by omega), ?_, ?_, (h4 k (by omega) hk).bout hF⟩
    · have := h9 0 (by decide)
      rw [Nat.zero_add]
      simp only [World.cell?, hh]
      simpa [pc] using this
    · have := h9 1 (by decide)
      rw [Nat.zero_add]
      simp only [World.cell?, hh]
      simpa [pc] using this
theorem PRow.app {ops : Array Oper} {rest : List Oper} {o : Oper} {a : Act} {Q : Exit → Act → World → Prop} {y : Value} {p : Jr.Put} {q : Nat} {f : Nat × Nat} (h : PRow G w v puts) (hq : w.heap[q]? = some (.cells #[.int .i64 (p.1 : Int), y] 37 f)) (hy : OBk G w y p.2) (hl : puts.length ≤ 1000000) (hG : ∀ k, w.heap.size ≤ k → G k)
    (hgd : o.guard = none) (s z : Operand) (ho : o.op = .call { callee := .builtin .append, args := #[s, z], argTypes := #[71, 71] }) (hs : a.eval s = v) (hz : a.eval z = .slice (some ⟨q, 0, none⟩) 1 1)
    (hK : ∀ v' w', PRow G w' v' (puts ++ [p]) → w.grownBy w' v.ownBlock → wpList Try.prog ops Q rest (a.put o.dst v') w') : wpList Try.prog ops Q (o :: rest) a w := by
  obtain ⟨us, h1, h2, h3, h4⟩ := h
  obtain ⟨i0, hi0, hz0, hz1, hz2⟩ := info_parts put_info
  refine wpList_append_whose w hgd s z 71 ho 37 i0 _ 2 32 Try.underlying71 hi0 hz0 hz1 hz2 rfl (by decide) v puts.length _ hs h2 ⟨q, 0, none⟩ 1 1 [.int .i64 (p.1 : Int), y] hz rfl (fun j u hj => ?_) (fun u hu => by
    rcases List.mem_cons.1 hu with rfl | hu
    · rfl
    · rw [List.mem_singleton.1 hu]; exact hy.one) (by unfold maxLen; omega) (by omega) (fun v' w' g1 g2 g3 => hK v' w' ⟨us ++ [y], by simp [h1], ?_, fun k hk => ?_, fun i i1 i2 => ?_⟩ g2)
  · match j, hj with
    | 0, hj =>
      simp only [List.getElem?_cons_zero, Option.some.injEq] at hj
      subst hj
      simp [World.cell?, hq, Addr.add]
    | 1, hj =>
      simp only [List.getElem?_cons_zero, List.getElem?_cons_succ, Option.some.injEq] at hj
      subst hj
      simp [World.cell?, hq, Addr.add]
  · rw [List.zip_append h1.symm, List.flatMap_append, List.length_append]
    exact g1
  · rcases g3 k hk with h | h
    · exact h3 k h
    · exact hG k h
  · have hrow : ∀ k, v.ownBlock = some k → ∃ (T : TypeId) (C : Array Value) (f : Nat × Nat), T ≠ 5 ∧ w.heap[k]? = some (.cells C T f) := fun k hk => by
      obtain ⟨C, hC⟩ := row_block h2 hk
      exact ⟨_, C, _, by decide, hC⟩
    by_cases hi : i < us.length
    · simp only [List.getElem_append_left hi, List.getElem_append_left (show i < puts.length by omega)]
      exact (h4 i hi (by omega)).grown g2 hrow
    · have e : i = us.length := by simp at i1; omega
      have e1 : (us ++ [y])[i] = y := by subst e; simp
      have e2 : (puts ++ [p])[i] = p := by simp [List.getElem_append_right (show puts.length ≤ i by omega), show i - puts.length = 0 by omega]
      rw [e1, e2]
      exact hy.grown g2 hrow
end

/-! ### a record's sectors -/
set_option maxHeartbeats 3200000 in
set_option maxRecDepth 100000 in
theorem body_w (F : Nat → Prop) (u : Nat) (x v : Value) (puts : List Jr.Put) (w : World) (h : PRd w v puts) (hF : ∀ k, F k → k < w.heap.size) (h64 : ∀ p ∈ puts, p.2.length = 64) (hp : ∀ p ∈ puts, p.1 < 9223372036854775808) (h10 : puts.length ≤ 10) (hu : u < 9223372036854775808) (hx : x.oneCell' = true) :
    Calls Try.prog 33 #[.agg #[.int .i64 (u : Int), x, v]] w fun e w' => ∃ vr, e = .returned vr ∧ BsOut F w' vr (Jr.front (u : Int) puts) ∧ Below w.heap.size w w' := by
  obtain ⟨ao, cap, rfl, hc, hc9, -⟩ := id h
  obtain ⟨n, hn⟩ : ∃ n, n = puts.length := ⟨_, rfl⟩
  have HN := Lib.hid hn
  have HG := Lib.hid h
  have HP := Lib.hid (And.intro h64 hp)
  have CH := Lib.hid (fun W hb => head_w u x _ puts W (h.later (w' := W) hb) h64 hp h10 hu)
  have hmk := made64
  rw [← hn] at hc h10 CH
  have hr := heap_alloc_new w (.cells #[.int .i64 (u : Int), x, .slice ao n cap] 77)
  have hb0 : Below w.heap.size w (w.alloc (.cells #[.int .i64 (u : Int), x, .slice ao n cap] 77)) := (Below.refl _ w).alloc (Nat.le_refl _) _
  have hb09 : ((w.alloc (.cells #[.int .i64 (u : Int), x, .slice ao n cap] 77))).heap.size = w.heap.size + 1 := by simp
  rw [← hn]
  have hni : (n : Int) ≤ 10 := by omega
  clear h h64 hp hn
  go_enter Try.func33, Try.ntmps33
  go_upto_region 1 with fail
  obtain ⟨q, hq⟩ : ∃ q, q = w.heap.size := ⟨_, rfl⟩
  rw [← hq] at hr ⊢
  generalize w.alloc _ = w1 at *
  have c0 := (blk_cell hr 0 (.int .i64 (u : Int)) rfl).1
  have c1 := (blk_cell hr 1 x rfl).1
  have c2 := (blk_cell hr 2 (.slice ao n cap) rfl).1
  have HR := Lib.hid hr
  have HB0 := Lib.hid hb0
  have HQ := Lib.hid (And.intro hq hb09)
  clear hr hb0 hq hb09
  go_wp2_with fail
  refine (CH.out _ HB0.out).mono ?_
  rintro e w2 ⟨g, rfl, hg, hB, hb2⟩
  have hr2 : w2.heap[q]? = some (.cells #[.int .i64 (u : Int), x, .slice ao n cap] 77 (0, 0)) := (hb2.block q (lt_of_block HR.out)).trans HR.out
  have hG0 : ∀ k, w1.heap.size ≤ k → w.heap.size ≤ k := fun k hk => Nat.le_trans HB0.out.size hk
  have hS0 : SRow (fun k => w.heap.size ≤ k) (w2.alloc (.cells #[.slice (some ⟨g, 0, none⟩) 64 64] 22)) (.slice (some ⟨w2.heap.size, 0, none⟩) 1 1) [Jr.head (u : Int) puts] :=
    ⟨[.slice (some ⟨g, 0, none⟩) 64 64], rfl, World.ownsRow_lit w2 #[.slice (some ⟨g, 0, none⟩) 64 64] 1 (Nat.zero_le _) (by decide) rfl, (fun k hk => by cases hk; exact Nat.le_trans (bt5 HB0.out hb2).size (Nat.le_refl _)), fun i i1 i2 => by
      have e : i = 0 := by simpa using i1
      subst e
      exact (hB.obk (Jr.head_length (by rw [← HN.out]; exact h10)).symm (by decide) (hG0 g hg)).keep (fun _ h => h) (fun k C fr _ hc => ((Below.refl _ w2).alloc (Nat.le_refl _) _).block k (lt_of_block hc))⟩
  have hb3 : Below w.heap.size w (w2.alloc (.cells #[.slice (some ⟨g, 0, none⟩) 64 64] 22)) := (bt5 HB0.out hb2).alloc (bt5 HB0.out hb2).size _
  have hr3 : (w2.alloc (.cells #[.slice (some ⟨g, 0, none⟩) 64 64] 22)).heap[q]? = some (.cells #[.int .i64 (u : Int), x, .slice ao n cap] 77 (0, 0)) := (((Below.refl _ w2).alloc (Nat.le_refl _) _).block q (lt_of_block hr2)).trans hr2
  have HS0 := Lib.hid (And.intro hS0 (And.intro hb3 hr3))
  clear hS0 hb3 hr3 hr2 hB hb2 hg c0 c1 c2 HR CH HQ
  go_upto_region 2 with fail
  have c2 := (blk_cell HS0.out.2.2 2 (.slice ao n cap) rfl).1
  generalize w2.alloc _ = w3 at *
  obtain ⟨v0, hv0⟩ : ∃ v0, v0 = Value.slice (some ⟨w2.heap.size, 0, none⟩) 1 1 := ⟨_, rfl⟩
  rw [← hv0] at HS0 ⊢
  clear hv0
  go_wp2_with fail
  go_loopw [3, 12] (fun l i wr => ∃ k : Nat, k ≤ n ∧ i = .int .i64 k ∧ SRow (fun k => w.heap.size ≤ k) wr l (Jr.head (u : Int) puts :: (puts.take k).map (fun p => Jr.content p.2)) ∧ Below w.heap.size w wr) (fun _ i _ => n - (intOf i).toNat)
  case atStart => exact ⟨0, Nat.zero_le _, rfl, HS0.out.1, HS0.out.2.1⟩
  case round =>
    obtain ⟨k, hk, rfl, hS, hbr⟩ := hrel
    clear c2 HS0
    by_cases hlt : k < n
    · have hki : (k : Int) < n := by omega
      have hkl : k < puts.length := by rw [← HN.out]; exact hlt
      have HST := Lib.hid (show (Jr.head (u : Int) puts :: (puts.take k).map (fun p => Jr.content p.2)) ++ [Jr.content puts[k].2] = Jr.head (u : Int) puts :: (puts.take (k + 1)).map (fun p => Jr.content p.2) by
        rw [List.take_add_one, List.getElem?_eq_getElem hkl, List.map_append]; rfl)
      have hln : (Jr.head (u : Int) puts :: (puts.take k).map (fun p => Jr.content p.2)).length ≤ 1000000 := by
        simp only [List.length_cons, List.length_map, List.length_take]; omega
      have hpk : puts[k]? = some puts[k] := List.getElem?_eq_getElem hkl
      generalize (Jr.head (u : Int) puts :: (puts.take k).map (fun p => Jr.content p.2)) = LS at *
      generalize puts[k] = p at *
      obtain ⟨pa, px⟩ := p
      obtain ⟨b, o, xb, xo, cv, rfl, f1, f2, hcv, hcv9, hx64, -, hbx⟩ := HG.out.nth HP.out.1 hpk
      have f1 := cell_later hbr f1
      have f2 := cell_later hbr f2
      have CC := Lib.hid (fun W hb => contents_w 0 _ px W ((hbx.later hbr).later (w' := W) hb) hx64)
      have HS := Lib.hid (And.intro hS (And.intro hbr hln))
      have hba : Below wr.heap.size wr (wr.alloc (.cells #[.int .i64 (pa : Int), .slice (some ⟨xb, xo, none⟩) 64 cv] 37)) := (Below.refl _ wr).alloc (Nat.le_refl _) _
      have HBA := Lib.hid hba
      clear hS hbr hba hln hbx
      go_wp2_with fail
      refine (CC.out _ HBA.out).mono ?_
      rintro e w5 ⟨yb, yc, rfl, hy⟩
      have hbw5 := bt5 (bt5 HS.out.2.1 HBA.out) hy.below
      have hS5 := (HS.out.1.later HBA.out).later hy.below
      have hG5 : ∀ k, w5.heap.size ≤ k → w.heap.size ≤ k := fun k hk => Nat.le_trans hbw5.size hk
      have hy5 : OBk (fun k => w.heap.size ≤ k) w5 (.slice (some ⟨yb, 0, none⟩) 64 yc) (Jr.content px) := hy.obk (by simp) (fun k hk => Nat.le_trans (bt5 HS.out.2.1 HBA.out).size hk)
      have hb6 : Below w5.heap.size w5 (w5.alloc (.cells #[.slice (some ⟨yb, 0, none⟩) 64 yc] 22)) := (Below.refl _ w5).alloc (Nat.le_refl _) _
      have HS6 := Lib.hid (And.intro (hS5.later hb6) (And.intro (hy5.later hb6) (And.intro (bt5 hbw5 hb6) (heap_alloc_new w5 (.cells #[.slice (some ⟨yb, 0, none⟩) 64 yc] 22)))))
      clear hbw5 hS5 hG5 hy5 hb6 hy HBA CC
      go_wp2_with (refine SRow.app HS6.out.1 HS6.out.2.2.2 HS6.out.2.1 HS.out.2.2 (fun k hk => Nat.le_trans HS6.out.2.2.1.size hk) rfl (.tmp 16) (.tmp 20) rfl rfl rfl ?_; intro v7 w7 hS7 hg7)
      have HS7 : Hid (SRow (fun k => w.heap.size ≤ k) w7 v7 (Jr.head (u : Int) puts :: (puts.take (k + 1)).map (fun p => Jr.content p.2)) ∧ Below w.heap.size w w7) := Lib.hid ⟨by rw [← HST.out]; exact hS7, HS6.out.2.2.1.grown hg7 HS6.out.2.2.1.size (HS6.out.1.lt (fun _ h => h))⟩
      clear hS7 hg7
      go_roundw
      case rel => exact ⟨k + 1, by omega, by go_num, HS7.out⟩
      case measure => simp [intOf]; omega
    · have hki : ¬ (k : Int) < n := by omega
      have hke : k = puts.length := by rw [← HN.out]; omega
      have HST := Lib.hid (show (Jr.head (u : Int) puts :: (puts.take k).map (fun p => Jr.content p.2)) ++ [Jr.zero] = Jr.front (u : Int) puts by
        rw [hke, List.take_length]; rfl)
      have hln : (Jr.head (u : Int) puts :: (puts.take k).map (fun p => Jr.content p.2)).length ≤ 1000000 := by
        simp only [List.length_cons, List.length_map, List.length_take]; omega
      generalize (Jr.head (u : Int) puts :: (puts.take k).map (fun p => Jr.content p.2)) = LS at *
      have hba : Below wr.heap.size wr (wr.alloc (.cells (madeCells #[.int .u8 0] 64) 5)) := (Below.refl _ wr).alloc (Nat.le_refl _) _
      have hz : OBk (fun k => w.heap.size ≤ k) (wr.alloc (.cells (madeCells #[.int .u8 0] 64) 5)) (.slice (some ⟨wr.heap.size, 0, none⟩) 64 64) Jr.zero := (Blk.made wr 64).obk rfl (by decide) hbr.size
      have hb6 : Below (wr.alloc (.cells (madeCells #[.int .u8 0] 64) 5)).heap.size (wr.alloc (.cells (madeCells #[.int .u8 0] 64) 5)) ((wr.alloc (.cells (madeCells #[.int .u8 0] 64) 5)).alloc (.cells #[.slice (some ⟨wr.heap.size, 0, none⟩) 64 64] 22)) := (Below.refl _ _).alloc (Nat.le_refl _) _
      have hnw := heap_alloc_new (wr.alloc (.cells (madeCells #[.int .u8 0] 64) 5)) (.cells #[.slice (some ⟨wr.heap.size, 0, none⟩) 64 64] 22)
      rw [show (wr.alloc (.cells (madeCells #[.int .u8 0] 64) 5)).heap.size = wr.heap.size + 1 by simp] at hnw
      have HS6 := Lib.hid (And.intro ((hS.later hba).later hb6) (And.intro (hz.later hb6) (And.intro (bt5 (bt5 hbr hba) hb6) hnw)))
      have HLN := Lib.hid hln
      clear hba hz hb6 hS hbr hlt hk hke hln hnw
      go_wp2_with (refine SRow.app HS6.out.1 HS6.out.2.2.2 HS6.out.2.1 HLN.out (fun k hk => Nat.le_trans HS6.out.2.2.1.size hk) rfl (.tmp 23) (.tmp 25) rfl rfl rfl ?_; intro v7 w7 hS7 hg7)
      rw [HST.out] at hS7
      have HS7 : Hid (BsOut F w7 v7 (Jr.front (u : Int) puts) ∧ Below w.heap.size w w7) := Lib.hid ⟨hS7.bs (fun k hk hf => Nat.not_le.2 (hF k hf) hk), HS6.out.2.2.1.grown hg7 HS6.out.2.2.1.size (HS6.out.1.lt (fun _ h => h))⟩
      clear hS7 hg7
      go_ret
      exact ⟨_, rfl, HS7.out⟩
end Go.Proofs.Ytjdmmnpfjbnhoaa
