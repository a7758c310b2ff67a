/- Package chunk: octets that came in, that are made, that are appended to (after package start's texts). -/
import Derived.Test.YtgnopcghobaoiaaDoorCkMath
import Derived.Test.YtgnopcghobaoiaaDoorFdBase
import Derived.Lib.SlBytesConst
import Derived.Lib.ConvBytes
import Derived.Laws.AppendOwnNone
import Derived.Laws.Rows
import Derived.Laws.Tables
import Derived.Deep.DeepCutAuto
import Derived.Deep.CutBlock
namespace Go.Proofs.YtgnopcghobaoiaaDoor
open Go.RowKit

theorem bt5 {a b c : World} (h : Below a.heap.size a b) (h' : Below b.heap.size b c) : Below a.heap.size a c := h.trans (h'.mono h.size)
theorem str_eq {a : ByteArray} {l : List UInt8} (h : a.data.toList = l) : a = str l := by rw [← h, str_of]
theorem app_two (a b : ByteArray) : (a ++ b).data.toList = a.data.toList ++ b.data.toList := by simp
theorem ne_oct (c n : UInt8) (m : Int) (hm : m = n.toNat) (h : c ≠ n) : ((c.toNat : Int) != m) = true ∧ ((c.toNat : Int) == m) = false ∧ ¬ (c.toNat : Int) = m := by
  have h1 : ¬ (c.toNat : Int) = m := fun e => h (UInt8.toNat_inj.1 (by omega))
  have h2 := beq_eq_false_iff_ne.2 h1
  exact ⟨by rw [bne, h2]; rfl, h2, h1⟩
theorem list_no {a : ByteArray} {l : List UInt8} (h : a.data.toList ≠ l) : ¬ a.toList = l ∧ (a.toList == l) = false ∧ (a.toList != l) = true := by
  rw [Lib.toList_data]
  have h2 : (a.data.toList == l) = false := beq_eq_false_iff_ne.2 h
  exact ⟨h, h2, by rw [bne, h2]; rfl⟩

theorem BIn.later {w w' : World} {v : Value} {l : List UInt8} (h : BIn w v l) (hb : Below w.heap.size w w') : BIn w' v l := by
  obtain ⟨ao, cap, hv, h1, h2, h⟩ := h
  refine ⟨ao, cap, hv, h1, h2, ?_⟩
  rcases h with h | ⟨b, o, h1, h2, h3⟩
  · exact .inl h
  · exact .inr ⟨b, o, h1, Nat.lt_of_lt_of_le h2 hb.size, fun j hj => by rw [hb.cell (p := ⟨b, o + j, none⟩) h2]; exact h3 j hj⟩
/-- The first n octets as a text. -/
theorem BIn.text {w : World} {b o cap : Nat} {l : List UInt8} (h : ∀ j (hj : j < l.length), w.cell? ⟨b, o + j, none⟩ = some (.int .u8 (l[j].toNat : Int))) (n : Nat) (hn : n ≤ l.length) :
    (convert 22 9 (.slice (some ⟨b, o, none⟩) n cap)).run Tryd.prog w = .ok (.string (str (l.take n))) w := by
  have hl : (l.take n).length = n := by rw [List.length_take]; omega
  have := run_convert_bytes_back (P := Tryd.prog) w 22 9 5 ⟨b, o, none⟩ cap (l.take n) Tryd.underlying22 Tryd.underlying5 Tryd.underlying9 (fun j hj => by
    rw [Addr.add_lit, h j (by omega)]
    simp)
  rw [hl] at this
  exact this

/-- A slice without a block has no room. -/
def NilOk (v : Value) : Prop := ∀ c, v = .slice none 0 c → c = 0
theorem nil_ok (g n c : Nat) : NilOk (.slice (some ⟨g, 0, none⟩) n c) := fun _ h => by injection h with h; cases h
/-- A text's octets: a row of its own. -/
theorem octets_text (s : ByteArray) (w : World) (hs : s.size ≤ 1000000) : ∃ c w', (convert 9 22 (.string s)).run Tryd.prog w = .ok (.slice (some ⟨w.heap.size, 0, none⟩) s.size c) w' ∧ BIn w' (.slice (some ⟨w.heap.size, 0, none⟩) s.size c) s.data.toList ∧ Below w.heap.size w w' := by
  have hcv := run_bytes_of_string (P := Tryd.prog) w 9 22 5 s Tryd.underlying9 Tryd.underlying22 Tryd.underlying5
  have hR := Row.copy w s (grownCap w s.size 0 5)
  have hge : s.size ≤ grownCap w s.size 0 5 := grownCap_ge w _ _ _
  have hle : grownCap w s.size 0 5 ≤ maxLen := grownCap_le_maxLen w s.size 0 5 (by unfold maxLen; omega)
  have hb1 : Below w.heap.size w ((w.drew.alloc (.cells (bytesRow s (grownCap w s.size 0 5)) 5 ((bytesRow s (grownCap w s.size 0 5)).size, (bytesRow s (grownCap w s.size 0 5)).size + 1)))) := (Below.refl _ w).drew.alloc (Nat.le_refl _) _
  have hz : s.data.toList.length = s.size := Oct.length_size s
  refine ⟨_, _, hcv, ⟨_, _, by rw [hz], by rw [hz]; exact hge, by unfold maxLen at hle; exact hle, .inr ⟨w.heap.size, 0, rfl, hR.lt, fun j hj => by rw [Nat.zero_add]; exact (hR.cell j hj).1⟩⟩, hb1⟩
/-- A constant's octets, behind their conversion. -/
theorem octets_block (w : World) (C : Array Value) (l : List UInt8) (hC : C.toList = Lib.byteCells l) (hl : l.length ≤ 1000000) : ∃ W1, (convert 22 22 (.slice (some ⟨w.heap.size, 0, none⟩) l.length l.length)).run Tryd.prog (w.alloc (.cells C 5)) = .ok (.slice (some ⟨w.heap.size, 0, none⟩) l.length l.length) W1 ∧
    BIn W1 (.slice (some ⟨w.heap.size, 0, none⟩) l.length l.length) l ∧ Below w.heap.size w W1 := by
  refine ⟨_, Lib.run_convert_bytes_const w _ _ C l.length l.length Tryd.underlying22 Tryd.underlying5, ⟨_, _, rfl, Nat.le_refl _, by omega, .inr ⟨w.heap.size, 0, rfl, by simp, fun j hj => ?_⟩⟩, (Below.refl _ w).alloc (Nat.le_refl _) _⟩
  rw [Nat.zero_add, World.cell?_alloc_mark, ← Array.getElem?_toList, hC]
  simp [Lib.byteCells, hj]
/-- 'make([]byte, n)'. -/
theorem octets_made (w : World) (n : Nat) (hn : n ≤ 1000000) : BIn (w.alloc (.cells (madeCells #[.int .u8 0] n) 5)) (.slice (some ⟨w.heap.size, 0, none⟩) n n) (List.replicate n 0) := by
  have hl : (List.replicate n (0 : UInt8)).length = n := List.length_replicate
  refine ⟨_, n, by rw [hl], by rw [hl]; exact Nat.le_refl _, by omega, .inr ⟨w.heap.size, 0, rfl, by simp, fun j hj => ?_⟩⟩
  rw [hl] at hj
  rw [Nat.zero_add, World.cell?_alloc_at _ _ _ _ rfl]
  simp [madeCells, hj, Nat.mod_one]
/-- '[]byte{}'. -/
theorem Buf.none_ (W w : World) (hb : Below W.heap.size W w) : Buf W (w.alloc (.cells #[] 5)) (.slice (some ⟨w.heap.size, 0, none⟩) 0 0) [] :=
  ⟨World.ownsRow_made w #[] 0 hb.size (by decide) rfl, hb.alloc hb.size _⟩
theorem Buf.bin {W w : World} {v : Value} {l : List UInt8} (h : Buf W w v l) (hv : v ≠ .slice none 0 0) : BIn w v l ∧ NilOk v := by
  rcases h.1.2 with ⟨h0, _⟩ | ⟨g, cap, cur, hv', hg, hh, h1, h2, h3, h4⟩
  · exact absurd h0 hv
  · refine ⟨⟨_, cap, hv', h1, by unfold maxLen at h2; omega, .inr ⟨g, 0, rfl, lt_of_block hh, fun j hj => ?_⟩⟩, by rw [hv']; exact nil_ok g _ _⟩
    have h5 : cur.toList[j]? = some (.int .u8 (l[j].toNat : Int)) := by
      have h6 : (cur.toList.take (l.length * 1))[j]? = (Lib.byteCells l)[j]? := by rw [h4]
      rw [List.getElem?_take_of_lt (by omega)] at h6
      rw [h6]; simp [Lib.byteCells, hj]
    rw [Nat.zero_add]
    simp only [World.cell?, hh]
    simpa using h5
/-- 'append(b, c..)'. -/
theorem appBs {ops : Array Oper} {rest : List Oper} {o : Oper} {a : Act} {Q : Exit → Act → World → Prop} {W w : World} {v u : Value} {l m : List UInt8} (h : Buf W w v l) (hu : BIn w u m) (hnil : NilOk u) (hlen : l.length + m.length ≤ 1000000000)
    (hgd : o.guard = none) (s x : Operand) (ho : o.op = .call { callee := .builtin .append, args := #[s, x], argTypes := #[22, 22] })
    (hs : a.eval s = v) (hx : a.eval x = u)
    (hK : ∀ v' w', Buf W w' v' (l ++ m) → (v ≠ .slice none 0 0 → v' ≠ .slice none 0 0) → wpList Tryd.prog ops Q rest (a.put o.dst v') w') : wpList Tryd.prog ops Q (o :: rest) a w := by
  obtain ⟨i0, hi, hz0, hz1, hz2⟩ := info_parts bytes_info
  obtain ⟨ao, cap, rfl, hlc, _, hg⟩ := hu
  cases ao with
  | none =>
    have h0 : m = [] := by
      rcases hg with h | ⟨b, o, h, _⟩
      · exact h
      · cases h
    subst h0
    obtain rfl : cap = 0 := hnil cap rfl
    refine wpList_append_own_none hgd s x _ ho W.heap.size 5 i0 1 Tryd.underlying22 hi v l.length (Lib.byteCells l) hs h.1 hx ?_
    have := hK v w
    rw [List.append_nil] at this
    exact this h id
  | some ad =>
    refine wpList_append_own _ hgd s x _ ho W.heap.size 5 i0 _ 1 1 Tryd.underlying22 hi hz0 hz1 hz2 rfl (by decide) v l.length (Lib.byteCells l) hs h.1 ad m.length cap (Lib.byteCells m) hx (by rw [Lib.byteCells_length]; omega) ?_ ?_ (by unfold maxLen; omega) (by omega) h.2.size (fun v' w' h1 h2 h3 => ?_)
    · intro j c hj
      have hjl : j < m.length := by
        have := (List.getElem?_eq_some_iff.1 hj).1
        rw [Lib.byteCells_length] at this; exact this
      rcases hg with h | ⟨b, o, h, hb, hc⟩
      · subst h; simp at hjl
      · cases h
        rw [Addr.add_lit, hc j hjl]
        rw [← hj]; simp [Lib.byteCells, hjl]
    · intro c hc
      unfold Lib.byteCells at hc
      obtain ⟨d, _, rfl⟩ := List.mem_map.1 hc
      rfl
    · refine hK v' w' ⟨?_, h.2.grown h2 h.2.size (fun k hk => (h.1.lt k hk).1)⟩ (fun hv hv' => hv (h3.1 hv').1)
      have e : Lib.byteCells (l ++ m) = Lib.byteCells l ++ Lib.byteCells m := by simp [Lib.byteCells]
      rw [e, List.length_append]; exact h1
/-- Octets as a text. -/
theorem BIn.all {w : World} {v : Value} {l : List UInt8} (h : BIn w v l) (hn : NilOk v) : (convert 22 9 v).run Tryd.prog w = .ok (.string (str l)) w := by
  obtain ⟨ao, cap, rfl, h1, h2, hg⟩ := h
  rcases hg with rfl | ⟨b, o, rfl, hb, hc⟩
  · cases ao with
    | none =>
      obtain rfl : cap = 0 := hn cap rfl
      exact (Buf.nil w).string
    | some ad => exact run_convert_bytes_back w _ _ _ ad cap [] Tryd.underlying22 Tryd.underlying5 Tryd.underlying9 (fun j hj => by cases hj)
  · have := BIn.text (w := w) (cap := cap) hc l.length (Nat.le_refl _)
    rw [List.take_length] at this
    exact this
/-- The first n octets. -/
theorem BIn.cut {w : World} {ao : Option Addr} {m cap : Nat} {l : List UInt8} (h : BIn w (.slice ao m cap) l) (n : Nat) (hn : n ≤ l.length) : BIn w (.slice ao n cap) (l.take n) := by
  obtain ⟨ao', cap', hv, h1, h2, hg⟩ := h
  injection hv with hv1 hv2 hv3
  subst hv1 hv2 hv3
  have hl : (l.take n).length = n := by rw [List.length_take]; omega
  refine ⟨ao, cap, by rw [hl], by omega, h2, ?_⟩
  rcases hg with rfl | ⟨b, o, rfl, hb, hc⟩
  · left; simp
  · refine .inr ⟨b, o, rfl, hb, fun j hj => ?_⟩
    rw [hl] at hj
    rw [hc j (by omega)]
    simp

end Go.Proofs.YtgnopcghobaoiaaDoor
