/- The statements of layer 7: two rows of the call's own that grow turn by turn. -/
import Derived.Test.YtgnopcghobaoiaaDoorCk7
import Derived.Maps.AppendAt
import Derived.Test.YtgnopcghobaoiaaDoorQuiet
namespace Go.Proofs.YtgnopcghobaoiaaDoor
open Go.RowKit

/-- They don't lie in one block. -/
def Asun (u v : Value) : Prop := ∀ k, u.ownBlock = some k → v.ownBlock ≠ some k
theorem Asun.nil (v : Value) : Asun (.slice none 0 0) v := fun k h => by simp [Value.ownBlock] at h
theorem Asun.to_nil (v : Value) : Asun v (.slice none 0 0) := fun k _ h => by simp [Value.ownBlock] at h
/-- Where a row lies that was appended to. -/
def AtOr (w : World) (v v' : Value) : Prop := v'.ownBlock = v.ownBlock ∨ v'.ownBlock = some w.heap.size
theorem Asun.next {W w : World} {v v' v2 : Value} {l2 : List UInt8} (h : Asun v v2) (h2 : Buf W w v2 l2) (hat : AtOr w v v') : Asun v' v2 := by
  intro k hk hk2
  rcases hat with e | e
  · exact h k (e ▸ hk) hk2
  · rw [e] at hk; cases hk
    have := (h2.1.lt _ hk2).2
    omega
theorem Asun.symm {u v : Value} (h : Asun u v) : Asun v u := fun k hk hu => h k hu hk
theorem Buf.other {W w w' : World} {v v2 : Value} {l2 : List UInt8} (h2 : Buf W w v2 l2) (hg : w.grownBy w' v.ownBlock) (hb : Below W.heap.size W w') (h : Asun v v2) : Buf W w' v2 l2 := by
  refine ⟨h2.1.kept hg ?_, hb⟩
  by_cases h0 : v2.ownBlock = none
  · exact .inl h0
  · right
    intro e
    obtain ⟨k, hk⟩ := Option.ne_none_iff_exists'.1 h0
    exact h k (e ▸ hk) hk
/-- Octets that lie in none of the row's blocks. -/
def Off (v u : Value) : Prop := ∀ ad n c, u = .slice (some ad) n c → v.ownBlock ≠ some ad.block
theorem BIn.other {w w' : World} {v u : Value} {l : List UInt8} (h : BIn w u l) (hg : w.grownBy w' v.ownBlock) (ho : Off v u) : BIn w' u l := by
  obtain ⟨ao, cap, rfl, h1, h2, h⟩ := h
  refine ⟨ao, cap, rfl, h1, h2, ?_⟩
  rcases h with h | ⟨b, o, rfl, hb, hc⟩
  · exact .inl h
  · refine .inr ⟨b, o, rfl, Nat.lt_of_lt_of_le hb hg.size, fun j hj => ?_⟩
    rw [← hc j hj]
    exact World.cell?_of_block (a := ⟨b, o + j, none⟩) (hg.block b hb (fun e => ho _ _ _ rfl e.symm))
/-- What a row of the call's own is, lies at or behind block B. -/
def NewAt (B : Nat) (u : Value) : Prop := ∀ ad n c, u = .slice (some ad) n c → B ≤ ad.block
theorem NewAt.off {B : Nat} {u v : Value} (h : NewAt B u) (hv : ∀ k, v.ownBlock = some k → k < B) : Off v u := fun ad n c e hk => by
  have h1 := h ad n c e
  have h2 := hv _ hk
  omega
theorem row_new {w : World} {B : Nat} {v : Value} {l : List UInt8} (h : w.ownsRow B 5 1 v l.length (Lib.byteCells l)) : NewAt B v := by
  intro ad n c e
  rcases h.2 with ⟨hv, _⟩ | ⟨g, cap, cur, hv, hg, _⟩
  · rw [hv] at e; cases e
  · rw [hv] at e; cases e; exact hg
theorem Off.next {w : World} {v v' u : Value} {l : List UInt8} (h : Off v u) (hu : BIn w u l) (hl : l ≠ []) (hat : AtOr w v v') : Off v' u := by
  intro ad n c e hk
  rcases hat with e1 | e1
  · exact h ad n c e (e1 ▸ hk)
  · rw [e1] at hk
    obtain ⟨ao, cap, rfl, h1, h2, h3⟩ := hu
    rcases h3 with h3 | ⟨b, o, rfl, hb, hc⟩
    · exact hl h3
    · cases e
      simp at hk
      omega
/-- Where the text lies once a string was appended. -/
theorem run_str_at {P : Program} (w : World) (base : Nat) (t u ty e : TypeId) (i : TypeInfo) (ht : P.underlying t = some (.slice e)) (hu : P.underlying u = some .string) (hi : P.info? e = some i) (hz : i.zero = some (.int .u8 0))
    (hsize : i.size = 1) (hby : i.bytes = 1) (v : Value) (n : Nat) (xs : List Value) (hown : w.ownsRow base e 1 v n xs) (s : ByteArray)
    (h63 : n + s.size ≤ maxLen) (hbytes : n + s.size ≤ 140737488355328) (hbase : base ≤ w.heap.size) :
    ∃ v' w', (Builtin.append_ #[t, u] ty #[v, .string s]).run P w = .ok v' w' ∧ w'.ownsRow base e 1 v' (n + s.size) (xs ++ Lib.strCells s) ∧ w.grownBy w' v.ownBlock ∧ AtOr w v v' := by
  have hsmall : n + s.size ≤ 9223372036854775807 := by simp only [maxLen] at h63; omega
  obtain ⟨v', w', hr, h2, h3, h4⟩ := Lib.run_append_own_string (P := P) w base t u ty e i ht hu hi hz hsize hby v n xs hown s h63 hbytes hbase
  refine ⟨v', w', hr, h2, h3, ?_⟩
  rcases hown.2 with ⟨rfl, rfl⟩ | ⟨g, cap, cur, rfl, hbg, hg, hnc, hcm, hcs, htake⟩
  · by_cases hm : s.size = 0
    · exact .inl (by rw [h4.2 ⟨rfl, hm⟩])
    · have hx := run_append_nil_string (P := P) w t u ty e i (.int .u8 0) ht hu hi hz s (by omega) (by omega) (by rw [hby]; omega)
      rw [hr] at hx
      injection hx with hx1 hx2
      exact .inr (by rw [hx1]; rfl)
  · by_cases hroom : n + s.size ≤ cap
    · have hcs' : cur.size = cap := by simpa using hcs
      have hx := Lib.run_append_room_string (P := P) w t u ty e i ht hu hi hsize g n cap cur hg s hroom (by omega)
      rw [hr] at hx
      injection hx with hx1 hx2
      exact .inl (by rw [hx1]; rfl)
    · have hx := Lib.run_append_grow_string (P := P) w t u ty e i (.int .u8 0) ht hu hi hz ⟨g, 0, none⟩ n cap xs (by rw [hsize]; simpa using hown.1) (hown.cells (g := g) rfl) s (by omega) (by omega) (by rw [hby]; exact growslice_fits (by omega) (by omega))
      rw [hr] at hx
      injection hx with hx1 hx2
      exact .inr (by rw [hx1]; rfl)
/-- 'append(b, s..)', s a string: where it lies, too. -/
theorem appSAt {ops : Array Oper} {rest : List Oper} {o : Oper} {a : Act} {Q : Exit → Act → World → Prop} {W w : World} {v : Value} {l : List UInt8} (h : Buf W w v l) (s : ByteArray) (hlen : l.length + s.size ≤ 100000000000)
    (hgd : o.guard = none) (sl x : Operand) (ho : o.op = .call { callee := .builtin .append, args := #[sl, x], argTypes := #[22, 9] })
    (hs : a.eval sl = v) (hx : a.eval x = .string s)
    (hK : ∀ v' w', Buf W w' v' (l ++ s.data.toList) → w.grownBy w' v.ownBlock → AtOr w v v' → wpList Tryd.prog ops Q rest (a.put o.dst v') w') : wpList Tryd.prog ops Q (o :: rest) a w := by
  obtain ⟨i0, hi, hz0, hz1, hz2⟩ := info_parts bytes_info
  refine wpList_plain hgd fun K hKK => ?_
  obtain ⟨v', w', hr, h2, h3, h4⟩ := run_str_at (P := Tryd.prog) w W.heap.size _ _ o.type _ i0 Tryd.underlying22 Tryd.underlying9 hi hz0 hz1 hz2 v l.length (Lib.byteCells l) h.1 s (by unfold maxLen; omega) (by omega) h.2.size
  unfold Oper.wp execOp
  simp only [ho, resolve, invoke, builtin, Sem.run_bind, Sem.run_pure, Result.andThen_ok, List.map_toArray, List.map_cons, List.map_nil, hs, hx, hr]
  refine hKK _ _ (hK v' w' ⟨?_, h.2.grown h3 h.2.size (fun k hk => (h.1.lt k hk).1)⟩ h3 h4)
  have e : Lib.byteCells (l ++ s.data.toList) = Lib.byteCells l ++ Lib.strCells s := by simp [Lib.byteCells, Lib.strCells]
  rw [e, List.length_append, Oct.length_size]
  exact h2
/-- 'append(b, c..)': where it lies, too. -/
theorem appBAt {ops : Array Oper} {rest : List Oper} {o : Oper} {a : Act} {Q : Exit → Act → World → Prop} {W w : World} {v u : Value} {l m : List UInt8} (h : Buf W w v l) (hu : BIn w u m) (hnil : NilOk u) (hlen : l.length + m.length ≤ 1000000000)
    (hgd : o.guard = none) (s x : Operand) (ho : o.op = .call { callee := .builtin .append, args := #[s, x], argTypes := #[22, 22] })
    (hs : a.eval s = v) (hx : a.eval x = u)
    (hK : ∀ v' w', Buf W w' v' (l ++ m) → w.grownBy w' v.ownBlock → AtOr w v v' → wpList Tryd.prog ops Q rest (a.put o.dst v') w') : wpList Tryd.prog ops Q (o :: rest) a w := by
  obtain ⟨i0, hi, hz0, hz1, hz2⟩ := info_parts bytes_info
  obtain ⟨ao, cap, rfl, hlc, _, hg⟩ := hu
  cases ao with
  | none =>
    have h0 : m = [] := by
      rcases hg with h | ⟨b, o, h, _⟩
      · exact h
      · cases h
    subst h0
    obtain rfl : cap = 0 := hnil cap rfl
    refine wpList_append_own_none hgd s x _ ho W.heap.size 5 i0 1 Tryd.underlying22 hi v l.length (Lib.byteCells l) hs h.1 hx ?_
    have := hK v w
    rw [List.append_nil] at this
    exact this h ⟨rfl, rfl, rfl, Nat.le_refl _, fun _ _ _ => rfl⟩ (.inl rfl)
  | some ad =>
    refine wpList_append_own_at _ hgd s x _ ho W.heap.size 5 i0 _ 1 1 Tryd.underlying22 hi hz0 hz1 hz2 rfl (by decide) v l.length (Lib.byteCells l) hs h.1 ad m.length cap (Lib.byteCells m) hx (by rw [Lib.byteCells_length]; omega) ?_ ?_ (by unfold maxLen; omega) (by omega) h.2.size (fun v' w' h1 h2 h3 h4 => ?_)
    · intro j c hj
      have hjl : j < m.length := by
        have := (List.getElem?_eq_some_iff.1 hj).1
        rw [Lib.byteCells_length] at this; exact this
      rcases hg with h | ⟨b, o, h, hb, hc⟩
      · subst h; simp at hjl
      · cases h
        rw [Addr.add_lit, hc j hjl]
        rw [← hj]; simp [Lib.byteCells, hjl]
    · intro c hc
      unfold Lib.byteCells at hc
      obtain ⟨d, _, rfl⟩ := List.mem_map.1 hc
      rfl
    · refine hK v' w' ⟨?_, h.2.grown h2 h.2.size (fun k hk => (h.1.lt k hk).1)⟩ h2 h4
      have e : Lib.byteCells (l ++ m) = Lib.byteCells l ++ Lib.byteCells m := by simp [Lib.byteCells]
      rw [e, List.length_append]; exact h1
/-- A row based later is one based earlier. -/
theorem Buf.based {W w w' : World} {v : Value} {l : List UInt8} (h : Buf w w' v l) (hb : Below W.heap.size W w) : Buf W w' v l := by
  refine ⟨⟨h.1.1, ?_⟩, hb.trans (h.2.mono hb.size)⟩
  rcases h.1.2 with h0 | ⟨g, cap, cur, hv, hg, rest⟩
  · exact .inl h0
  · exact .inr ⟨g, cap, cur, hv, Nat.le_trans hb.size hg, rest⟩
/-- A row of an older world lies in older blocks. -/
theorem Buf.old {W w : World} {v : Value} {l : List UInt8} (h : Buf W w v l) : ∀ k, v.ownBlock = some k → k < w.heap.size := fun k hk => (h.1.lt k hk).2
theorem Buf.apart {W W' w w' : World} {v u : Value} {l m : List UInt8} (h : Buf W w v l) (h2 : Buf W' w' u m) (hb : w.heap.size ≤ W'.heap.size) : Asun v u := fun k hk hu => by
  have := (h.1.lt k hk).2
  have := (h2.1.lt k hu).1
  omega
theorem Buf.later {W w w' : World} {v : Value} {l : List UInt8} (h : Buf W w v l) (hb : Below w.heap.size w w') : Buf W w' v l := by
  refine ⟨⟨h.1.1, ?_⟩, h.2.trans (hb.mono h.2.size)⟩
  rcases h.1.2 with h0 | ⟨g, cap, cur, hv, hg, hh, rest⟩
  · exact .inl h0
  · exact .inr ⟨g, cap, cur, hv, hg, by rw [hb.block g (lt_of_block hh)]; exact hh, rest⟩
end Go.Proofs.YtgnopcghobaoiaaDoor
