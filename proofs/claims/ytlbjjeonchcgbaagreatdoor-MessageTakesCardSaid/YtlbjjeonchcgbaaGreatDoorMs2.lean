/- Package message: messages in memory, stored, loaded and handed back; what the document tells of octets so far. -/
import Derived.Test.YtlbjjeonchcgbaaGreatDoorCkBase
import Derived.Test.YtlbjjeonchcgbaaGreatDoorMs1
import Derived.Test.YtlbjjeonchcgbaaGreatDoorTail
import Derived.Deep.RegionLaw
namespace Go.Proofs.YtlbjjeonchcgbaaGreatDoor
open Go.RowKit

/-- A part of what came in. -/
theorem BIn.mid {w : World} {ad : Addr} {m cap : Nat} {l : List UInt8} (h : BIn w (.slice (some ad) m cap) l) (K E : Nat) (hK : K ≤ E) (hE : E ≤ l.length) : BIn w (.slice (if cap = K then some ad else some (ad.add K)) (E - K) (cap - K)) ((l.take E).drop K) := by
  obtain ⟨ao', cap', hv, h1, h2, hg⟩ := h
  injection hv with hv1 hv2 hv3
  subst hv1 hv2 hv3
  have hl : ((l.take E).drop K).length = E - K := by rw [List.length_drop, List.length_take]; omega
  refine ⟨_, cap - K, by rw [hl], by omega, by omega, ?_⟩
  by_cases hKE : K = E
  · left; rw [List.drop_of_length_le (by rw [List.length_take]; omega)]
  · right
    rcases hg with rfl | ⟨b, o, hao, hb, hc⟩
    · simp at hE; omega
    · cases hao
      rw [if_neg (by omega), Addr.add_lit]
      refine ⟨b, o + K, rfl, hb, fun j hj => ?_⟩
      rw [hl] at hj
      rw [Nat.add_assoc, hc (K + j) (by omega)]
      simp


/-- A message is stored into a block: whole. -/
theorem stM {ops : Array Oper} {rest : List Oper} {o : Oper} {a : Act} {Q : Exit → Act → World → Prop} {W : World} {g : Nat} {c0 c1 c2 c3 c4 c5 c6 : Value} (h : W.heap[g]? = some (.cells #[c0, c1, c2, c3, c4, c5, c6] 28 (0, 0)))
    (hgd : o.guard = none) (px py : Operand) (ho : o.op = .store 28 px py) (x0 x1 : ByteArray) (x2 : Int) (x3 : ByteArray) (x4 : Int) (fa : Option Addr) (fl fc : Nat) (ba : Option Addr) (bl bc : Nat) (hx : a.eval px = .pointer (some ⟨g, 0, none⟩))
    (hy : a.eval py = .agg #[.string x0, .string x1, .int .i64 x2, .string x3, .int .i64 x4, .slice fa fl fc, .slice ba bl bc])
    (hK : ∀ W', W'.heap[g]? = some (.cells #[.string x0, .string x1, .int .i64 x2, .string x3, .int .i64 x4, .slice fa fl fc, .slice ba bl bc] 28 (0, 0)) → (∀ B, B ≤ g → Below B W W') → (∀ k, k ≠ g → W'.heap[k]? = W.heap[k]?) → wpList Tryz.prog ops Q rest (a.put o.dst undef) W') : wpList Tryz.prog ops Q (o :: rest) a W := by
  refine wpList_store_row hgd 28 px py ho g #[.string x0, .string x1, .int .i64 x2, .string x3, .int .i64 x4, .slice fa fl fc, .slice ba bl bc] hx hy 28 #[c0, c1, c2, c3, c4, c5, c6] h (by kernel_rfl) rfl (by simp [Value.oneCell']) (hK _ ?_ ?_ ?_)
  · simp [World.setRow, Array.getElem?_modify, h]
  · intro B hB
    refine ⟨rfl, rfl, rfl, by simp [World.setRow], fun k hk => ?_⟩
    have hne : g ≠ k := by omega
    simp [World.setRow, Array.getElem?_modify, hne]
  · intro k hk
    simp [World.setRow, Array.getElem?_modify, hk.symm]
/-- A message is loaded. -/
theorem ldM {ops : Array Oper} {rest : List Oper} {o : Oper} {a : Act} {Q : Exit → Act → World → Prop} {W : World} {g : Nat} {c0 c1 c2 c3 c4 c5 c6 : Value} (h : W.heap[g]? = some (.cells #[c0, c1, c2, c3, c4, c5, c6] 28 (0, 0)))
    (hgd : o.guard = none) (px : Operand) (ho : o.op = .load 28 px) (hx : a.eval px = .pointer (some ⟨g, 0, none⟩))
    (hK : wpList Tryz.prog ops Q rest (a.put o.dst (.agg #[c0, c1, c2, c3, c4, c5, c6])) W) : wpList Tryz.prog ops Q (o :: rest) a W :=
  wpList_load_row hgd 28 px ho g hx 28 #[c0, c1, c2, c3, c4, c5, c6] (0, 0) _ h Tryz.underlying28 rfl (by kernel_rfl) hK
theorem results_cell_four {fn : Func} {p u v x y : Tmp} {ty : TypeId} (h : fn.results = #[.cell p ty, .tmp u, .tmp v, .tmp x, .tmp y]) (tmps : Array Value) (P : Program) (w : World) :
    (results fn tmps).run P w =
      ((asAddr (tmps.getD p undef)).run P w).andThen fun a w₁ => ((loadVar ty a).run P w₁).andThen fun z w₂ => .ok (.tuple #[z, tmps.getD u undef, tmps.getD v undef, tmps.getD x undef, tmps.getD y undef]) w₂ := by
  simp only [results, h]
  simp [Sem.run_bind, Result.andThen]
/-- A message and four things more are handed back. -/
theorem ret_msg {fn : Func} {p u v x y : Tmp} (h : fn.results = #[.cell p 28, .tmp u, .tmp v, .tmp x, .tmp y]) {R : Ending → World → Prop} {a : Act} {w : World} (g : Nat) (c0 c1 c2 c3 c4 c5 c6 : Value)
    (hp : a.tmps.getD p undef = .pointer (some ⟨g, 0, none⟩)) (hg : w.heap[g]? = some (.cells #[c0, c1, c2, c3, c4, c5, c6] 28 (0, 0))) (hd : a.defers = [])
    (hR : R (.returned (.tuple #[.agg #[c0, c1, c2, c3, c4, c5, c6], a.tmps.getD u undef, a.tmps.getD v undef, a.tmps.getD x undef, a.tmps.getD y undef])) w) : bodyPost Tryz.prog fn R .ret a w := by
  refine bodyPost_ret (v := .tuple #[.agg #[c0, c1, c2, c3, c4, c5, c6], a.tmps.getD u undef, a.tmps.getD v undef, a.tmps.getD x undef, a.tmps.getD y undef]) ?_ hd hR
  have e := run_loadVar_row (P := Tryz.prog) w g 28 28 #[c0, c1, c2, c3, c4, c5, c6] (0, 0) _ hg Tryz.underlying28 rfl (by kernel_rfl)
  rw [results_cell_four h, hp]
  simp [Result.andThen, asAddr, e]
/-- A field in a message's block. -/
theorem putM {W : World} {g : Nat} {c0 c1 c2 c3 c4 c5 c6 : Value} (h : W.heap[g]? = some (.cells #[c0, c1, c2, c3, c4, c5, c6] 28 (0, 0))) (v : Value) : (W.setCell ⟨g, 6, none⟩ v).heap[g]? = some (.cells #[c0, c1, c2, c3, c4, c5, v] 28 (0, 0)) := by
  simp [World.setCell, Array.getElem?_modify, h]
theorem putM_below {W : World} {g : Nat} {v : Value} (B : Nat) (hB : B ≤ g) (j : Nat) : Below B W (W.setCell ⟨g, j, none⟩ v) := by
  refine ⟨rfl, rfl, rfl, by simp, fun k hk => ?_⟩
  rw [Below.heap_setCell _ _ _ _ (by simp; omega)]
theorem freeM {W : World} {g : Nat} {C : Array Value} (h : W.heap[g]? = some (.cells C 28 (0, 0))) (j : Nat) : W.frozen? ⟨g, j, none⟩ = false := by
  simp only [World.frozen?]; rw [h]; simp
/-- 'append(m.Body, b..)' where the body is none yet, as an operation. -/
theorem appN {o : Oper} {a : Act} {K : Act → World → Prop} {Q : Exit → Act → World → Prop} {W w : World} (hW : Below W.heap.size W w) {u : Value} {m : List UInt8} (hu : BIn w u m) (hsome : ∃ ad n c, u = .slice (some ad) n c) (hlen : m.length ≤ 1000000000)
    (s x : Operand) (ho : o.op = .call { callee := .builtin .append, args := #[s, x], argTypes := #[22, 22] })
    (hs : a.eval s = .slice none 0 0) (hx : a.eval x = u)
    (hK : ∀ v' w', Buf W w' v' m → Below w.heap.size w w' → K (a.put o.dst v') w') : o.wp Tryz.prog a w K Q := by
  obtain ⟨i0, hi, hz0, hz1, hz2⟩ := info_parts bytes_info
  obtain ⟨ad, n, c, rfl⟩ := hsome
  have hN : Buf W w (.slice none 0 0) [] := ⟨World.ownsRow_nil _ _ _ _, hW⟩
  obtain ⟨ao, cap, hv, _, _, hg⟩ := hu
  obtain ⟨hv1, hv2, hv3⟩ := Value.slice.inj hv
  subst hv2
  refine wp_append_own _ s x _ ho W.heap.size 5 i0 (.int .u8 0) 1 1 Tryz.underlying22 hi hz0 hz1 hz2 rfl (by decide) (.slice none 0 0) 0 (Lib.byteCells []) hs hN.1 ad m.length c (Lib.byteCells m) hx (by rw [Lib.byteCells_length, Nat.mul_one]) ?_ ?_ (by unfold maxLen; omega) (by omega) hW.size (fun v' w' h1 h2 _ => ?_)
  · intro j v hj
    have hjl : j < m.length := by
      have := (List.getElem?_eq_some_iff.1 hj).1
      rw [Lib.byteCells_length] at this; exact this
    rcases hg with h | ⟨b, o, h, hb, hc⟩
    · subst h; simp at hjl
    · rw [← hv1] at h
      cases h
      rw [Addr.add_lit, hc j hjl]
      rw [← hj]; simp [Lib.byteCells, hjl]
  · intro v hv
    unfold Lib.byteCells at hv
    obtain ⟨d, _, rfl⟩ := List.mem_map.1 hv
    rfl
  · refine hK v' w' ⟨?_, hN.2.grown h2 hN.2.size (fun k hk => (hN.1.lt k hk).1)⟩ ((Below.refl w.heap.size w).grown h2 (Nat.le_refl _) (fun k hk => by cases hk))
    have e : Lib.byteCells ([] : List UInt8) ++ Lib.byteCells m = Lib.byteCells m := rfl
    rw [e, Nat.zero_add] at h1
    exact h1

/-- Fields in blocks behind g: read so wherever those blocks lie as they did. -/
def FOver (g : Nat) (w : World) (v : Value) (fs : List Fld.F) : Prop := ∀ W : World, (∀ k, g < k → k < w.heap.size → W.heap[k]? = w.heap[k]?) → FIn W v fs
theorem FBuf.over {W w : World} {v : Value} {fs : List Fld.F} {g : Nat} (h : FBuf W w v fs) (hg : g < W.heap.size) : FOver g w v fs := by
  intro W' hk
  refine FIn.of_row (base := W.heap.size) ⟨h.1.1, ?_⟩
  rcases h.1.2 with h0 | ⟨k, cap, cur, hv, hkb, hh, rest⟩
  · exact .inl h0
  · exact .inr ⟨k, cap, cur, hv, hkb, by rw [hk k (by omega) (lt_of_block hh)]; exact hh, rest⟩
def BOver (g : Nat) (w : World) (v : Value) (l : List UInt8) : Prop := ∀ W : World, (∀ k, g < k → k < w.heap.size → W.heap[k]? = w.heap[k]?) → BIn W v l ∧ NilOk v
theorem Buf.over {W w : World} {v : Value} {l : List UInt8} {g : Nat} (h : Buf W w v l) (hg : g < W.heap.size) : BOver g w v l := by
  intro W' hk
  refine own_in (B := W.heap.size) ⟨h.1.1, ?_⟩
  rcases h.1.2 with h0 | ⟨k, cap, cur, hv, hkb, hh, rest⟩
  · exact .inl h0
  · exact .inr ⟨k, cap, cur, hv, hkb, by rw [hk k (by omega) (lt_of_block hh)]; exact hh, rest⟩
/-- What Told answers. -/
def MTold (w : World) (r : Ms.M × Bool × Nat × Bool × Int) (e : Ending) (w' : World) : Prop :=
  (∃ fv bv, e = .returned (.tuple #[mval r.1.start fv bv, .bool r.2.1, .int .i64 r.2.2.1, .bool r.2.2.2.1, .int .i64 r.2.2.2.2]) ∧ FIn w' fv r.1.fields ∧ BIn w' bv r.1.body ∧ NilOk bv) ∧ Below w.heap.size w w'
theorem fin_nil (w : World) : FIn w (.slice none 0 0) [] := ⟨none, 0, rfl, .inl rfl⟩
theorem mtold_zero {w w' : World} {r : Ms.M × Bool × Nat × Bool × Int} {k : Nat} {e : Int} (h : r = (Ms.zero, false, k, false, e)) (hb : Below w.heap.size w w') :
    MTold w r (.returned (.tuple #[.agg #[.string ⟨#[]⟩, .string ⟨#[]⟩, .int .i64 0, .string ⟨#[]⟩, .int .i64 0, .slice none 0 0, .slice none 0 0], .bool false, .int .i64 k, .bool false, .int .i64 e])) w' := by
  subst h
  exact ⟨⟨.slice none 0 0, .slice none 0 0, rfl, fin_nil w', bin_nil w'⟩, hb⟩
theorem mtold_msg {w w' : World} {r : Ms.M × Bool × Nat × Bool × Int} {s : St.S} {fs : List Fld.F} {x : List UInt8} {k : Nat} {d : Bool} {fv bv : Value} (h : r = (⟨s, fs, x⟩, true, k, d, 0)) (hf : FIn w' fv fs) (hx : BIn w' bv x) (hn : NilOk bv) (hb : Below w.heap.size w w') :
    MTold w r (.returned (.tuple #[.agg #[.string (str s.method), .string (str s.target), .int .i64 s.status, .string (str s.reason), .int .i64 s.minor, fv, bv], .bool true, .int .i64 k, .bool d, .int .i64 0])) w' := by
  subst h
  exact ⟨⟨fv, bv, rfl, hf, hx, hn⟩, hb⟩

set_option maxHeartbeats 6400000 in
set_option maxRecDepth 100000 in
theorem mTold_w (v : Value) (l : List UInt8) (asks : Bool) (m : List UInt8) (w : World) (hl : l.length ≤ 100000) (hm : m.length ≤ 1000000) (h : BIn w v l) :
    Calls Tryz.prog 11 #[v, .bool asks, .string (str m)] w fun e w' => MTold w (Ms.told l asks m) e w' := by
  have HV := Lib.hid (fun (W : World) (hb : Below w.heap.size w W) => h.later hb)
  have HLL := Lib.hid hl
  have HM := Lib.hid hm
  have cR := fun (W : World) (hb : Below w.heap.size w W) => rResponse_w v l W (by omega) (h.later hb)
  have cQ := fun (W : World) (hb : Below w.heap.size w W) => rRequest_w v l W (by omega) (h.later hb)
  have hla : Ms.line asks l = if asks then St.request l else St.response l := rfl
  obtain ⟨⟨s1, n1, e1⟩, hr⟩ : ∃ x, St.response l = x := ⟨_, rfl⟩
  obtain ⟨⟨s2, n2, e2⟩, hq⟩ : ∃ x, St.request l = x := ⟨_, rfl⟩
  rw [hr, sres_s] at cR
  rw [hq, sres_s] at cQ
  rw [hr, hq] at hla
  obtain ⟨⟨s, n, e⟩, hsn⟩ : ∃ x, Ms.line asks l = x := ⟨_, rfl⟩
  rw [hsn] at hla
  have HLA := Lib.hid hla
  have HSN := Lib.hid hsn
  clear hr hq hla hsn h hl hm
  go_enter Tryz.func11, Tryz.ntmps11
  go_upto_region 1 with fail
  have b6 : (w.alloc (.cells #[.string ⟨#[]⟩, .string ⟨#[]⟩, .int .i64 0, .string ⟨#[]⟩, .int .i64 0, .slice none 0 0, .slice none 0 0] 28)).heap[w.heap.size]? = some (.cells #[.string ⟨#[]⟩, .string ⟨#[]⟩, .int .i64 0, .string ⟨#[]⟩, .int .i64 0, .slice none 0 0, .slice none 0 0] 28 (0, 0)) := heap_alloc_new w _
  have hb1 : Below w.heap.size w (w.alloc (.cells #[.string ⟨#[]⟩, .string ⟨#[]⟩, .int .i64 0, .string ⟨#[]⟩, .int .i64 0, .slice none 0 0, .slice none 0 0] 28)) := (Below.refl _ w).alloc (Nat.le_refl _) _
  obtain ⟨g6, hg6⟩ : ∃ g6, g6 = w.heap.size := ⟨_, rfl⟩
  have hgw : w.heap.size ≤ g6 := by omega
  rw [← hg6] at b6 ⊢
  generalize w.alloc (.cells #[.string ⟨#[]⟩, .string ⟨#[]⟩, .int .i64 0, .string ⟨#[]⟩, .int .i64 0, .slice none 0 0, .slice none 0 0] 28) = W1 at *
  clear hg6
  go_upto_region 2 with fail
  have b11 : (W1.alloc (.cells #[.string ⟨#[]⟩, .string ⟨#[]⟩, .int .i64 0, .string ⟨#[]⟩, .int .i64 0, .slice none 0 0, .slice none 0 0] 28)).heap[W1.heap.size]? = some (.cells #[.string ⟨#[]⟩, .string ⟨#[]⟩, .int .i64 0, .string ⟨#[]⟩, .int .i64 0, .slice none 0 0, .slice none 0 0] 28 (0, 0)) := heap_alloc_new W1 _
  have hb2' : Below W1.heap.size W1 (W1.alloc (.cells #[.string ⟨#[]⟩, .string ⟨#[]⟩, .int .i64 0, .string ⟨#[]⟩, .int .i64 0, .slice none 0 0, .slice none 0 0] 28)) := (Below.refl _ W1).alloc (Nat.le_refl _) _
  have b6 := blk_later b6 hb2'
  have hb2 := bt5 hb1 hb2'
  obtain ⟨g11, hg11⟩ : ∃ g11, g11 = W1.heap.size := ⟨_, rfl⟩
  rw [← hg11] at b11 ⊢
  generalize W1.alloc (.cells #[.string ⟨#[]⟩, .string ⟨#[]⟩, .int .i64 0, .string ⟨#[]⟩, .int .i64 0, .slice none 0 0, .slice none 0 0] 28) = W2 at *
  clear hg11 hb2' hb1
  go_wp2_with fail
  refine (cR W2 hb2).mono ?_
  rintro e' W3 ⟨rfl, hb3'⟩
  have b6 := blk_later b6 hb3'
  have b11 := blk_later b11 hb3'
  have hlt6 := lt_of_block b6
  have hlt11 := lt_of_block b11
  have hb3 := bt5 hb2 hb3'
  clear hb3' hb2 cR
  go_upto_region 3 with fail
  have S12 := SAt.fresh hb3 (.string (str s1.method)) (.string (str s1.target)) (.int .i64 s1.status) (.string (str s1.reason)) (.int .i64 s1.minor)
  have hb4' : Below W3.heap.size W3 (W3.alloc (.cells #[.string (str s1.method), .string (str s1.target), .int .i64 s1.status, .string (str s1.reason), .int .i64 s1.minor] 25)) := (Below.refl _ W3).alloc (Nat.le_refl _) _
  have b6 := blk_later b6 hb4'
  have b11 := blk_later b11 hb4'
  generalize W3.alloc (.cells #[.string (str s1.method), .string (str s1.target), .int .i64 s1.status, .string (str s1.reason), .int .i64 s1.minor] 25) = W4 at *
  obtain ⟨g12, hg12⟩ : ∃ g12, g12 = W3.heap.size := ⟨_, rfl⟩
  rw [← hg12] at S12 ⊢
  have h612 : g6 < g12 := by rw [hg12]; exact hlt6
  have h1112 : g11 < g12 := by rw [hg12]; exact hlt11
  clear hb4' hb3 hg12 hlt6 hlt11
  go_upto_if 33 with fail
  go_cut [13, 14] (fun x13 x14 wx => x13 = .int .i64 n ∧ x14 = .int .i64 e ∧ wx.heap[g6]? = some (.cells #[.string ⟨#[]⟩, .string ⟨#[]⟩, .int .i64 0, .string ⟨#[]⟩, .int .i64 0, .slice none 0 0, .slice none 0 0] 28 (0, 0)) ∧ wx.heap[g11]? = some (.cells #[.string ⟨#[]⟩, .string ⟨#[]⟩, .int .i64 0, .string ⟨#[]⟩, .int .i64 0, .slice none 0 0, .slice none 0 0] 28 (0, 0)) ∧ SAt w g12 wx (.string (str s.method)) (.string (str s.target)) (.int .i64 s.status) (.string (str s.reason)) (.int .i64 s.minor))
  case first =>
    cases asks with
    | false =>
      have hla := HLA.out
      rw [if_neg (by decide)] at hla
      injection hla with q1 q2
      injection q2 with q2 q3
      subst q1 q2 q3
      go_wp2_with fail
      go_meet
      case rel => exact ⟨rfl, rfl, b6, b11, S12⟩
    | true =>
      have hla := HLA.out
      rw [if_pos rfl] at hla
      injection hla with q1 q2
      injection q2 with q2 q3
      subst q1 q2 q3
      go_wp2_with fail
      refine (cQ W4 S12.below).mono ?_
      rintro e' W5 ⟨rfl, hb5⟩
      have b6 := blk_later b6 hb5
      have b11 := blk_later b11 hb5
      have S12 := S12.later hb5
      go_wp2_with (refine stS S12 rfl (.tmp 12) (.tmp 37) rfl _ _ _ _ _ rfl rfl ?_; intro W9 h9 hk9)
      go_meet
      case rel => exact ⟨rfl, rfl, (hk9 g6 (by omega)).trans b6, (hk9 g11 (by omega)).trans b11, h9⟩
  case rest =>
    obtain ⟨rfl, rfl, b6, b11, S12⟩ := hcut
    clear cQ HLA
    have hb := S12.below
    by_cases e11 : e = 11
    · have HR := Lib.hid (Ms.told_more (method := m) (by rw [HSN.out]; exact e11))
      subst e11
      go_wp2_with (first | (refine ldM b11 rfl (.tmp 11) rfl rfl ?_) | (refine stM b6 rfl (.tmp 6) (.tmp 42) rfl _ _ _ _ _ _ _ _ _ _ _ rfl rfl ?_; intro W9 h9 hb9 hk9))
      (try simp only [Exit.inBlock, Exit.then])
      refine ret_msg rfl g6 _ _ _ _ _ _ _ rfl h9 rfl ?_
      exact mtold_zero HR.out (hb.trans (hb9 _ hgw))
    · have e11b : (e == 11) = false := beq_eq_false_iff_ne.2 e11
      by_cases e0 : e = 0
      case neg =>
        have HR := Lib.hid (Ms.told_bad (method := m) (by rw [HSN.out]) e0 e11)
        have e0b : (e != 0) = true := by simpa using e0
        go_wp2_with (first | (refine ldM b11 rfl (.tmp 11) rfl rfl ?_) | (refine stM b6 rfl (.tmp 6) (.tmp 45) rfl _ _ _ _ _ _ _ _ _ _ _ rfl rfl ?_; intro W9 h9 hb9 hk9))
        (try simp only [Exit.inBlock, Exit.then])
        refine ret_msg rfl g6 _ _ _ _ _ _ _ rfl h9 rfl ?_
        exact mtold_zero HR.out (hb.trans (hb9 _ hgw))
      case pos =>
        subst e0
        clear e11 e11b
        obtain ⟨nn, hnn, hnl⟩ := Ms.line_nat asks l
        rw [HSN.out] at hnn
        have hnn : n = (nn : Int) := hnn
        subst hnn
        have hne : l ≠ [] := by
          rintro rfl
          have h1 := HSN.out
          have h2 : (Ms.line asks []).2.2 = 0 := by rw [h1]
          cases asks
          · exact absurd h2 (by decide)
          · exact absurd h2 (by decide)
        obtain ⟨ao, c, hvv, hlc, hc9, hg⟩ := HV.out w (Below.refl _ w)
        subst hvv
        obtain ⟨ad, rfl⟩ : ∃ ad, ao = some ad := by
          rcases hg with h | ⟨b, o, h, _⟩
          · exact absurd h hne
          · exact ⟨_, h⟩
        clear hg hne
        obtain ⟨L, hL⟩ : ∃ L, L = l.length := ⟨_, rfl⟩
        have HL := Lib.hid hL
        rw [← hL] at hlc hnl HV ⊢
        clear hL
        have HMID := Lib.hid (fun (W : World) (hb : Below w.heap.size w W) (K : Nat) (hK : K ≤ L) => (by
          have := (HV.out W hb).mid K L hK (by rw [HL.out]; exact Nat.le_refl _)
          rw [show (l.take L).drop K = l.drop K by rw [HL.out, List.take_length]] at this
          exact this : BIn W (.slice (if c = K then some ad else some (ad.add K)) (L - K) (c - K)) (l.drop K)))
        obtain ⟨⟨fs, k, e2⟩, hp⟩ : ∃ x, Fld.parse (l.drop nn) = x := ⟨_, rfl⟩
        have cP := rParse_w _ (l.drop nn) wc (by rw [List.length_drop]; have := HLL.out; omega) (HMID.out wc hb nn hnl)
        have hkl := Fld.parse_le (l.drop nn)
        have hsm := Fld.parse_small (l.drop nn)
        rw [hp] at cP hkl hsm
        simp only [] at cP hkl hsm
        rw [List.length_drop, ← HL.out] at hkl
        have HP := Lib.hid hp
        have HSM := Lib.hid hsm
        have HNL := Lib.hid hnl
        have hni : (0 : Int) ≤ nn := by omega
        have hnLi : (nn : Int) ≤ L := by omega
        have hLi : (L : Int) ≤ 100000 := by have := HLL.out; have := HL.out; omega
        have hLc : (L : Int) ≤ c := by omega
        clear hp hsm hnl
        go_upto_region 9 with fail
        go_cut [14, 15, 16] (fun x14 x15 x16 wx => x14 = .int .i64 e2 ∧ (∃ fa fc, x15 = .slice fa fs.length fc) ∧ x16 = .int .i64 k ∧ FOver g6 wx x15 fs ∧ wx.heap[g6]? = some (.cells #[.string ⟨#[]⟩, .string ⟨#[]⟩, .int .i64 0, .string ⟨#[]⟩, .int .i64 0, .slice none 0 0, .slice none 0 0] 28 (0, 0)) ∧ wx.heap[g11]? = some (.cells #[.string ⟨#[]⟩, .string ⟨#[]⟩, .int .i64 0, .string ⟨#[]⟩, .int .i64 0, .slice none 0 0, .slice none 0 0] 28 (0, 0)) ∧ SAt w g12 wx (.string (str s.method)) (.string (str s.target)) (.int .i64 s.status) (.string (str s.reason)) (.int .i64 s.minor))
        case first =>
          by_cases hcn : c = nn
          · rw [if_pos hcn] at cP
            have hLn : L = nn := by omega
            clear HMID HL HV HP HSN HSM HNL
            subst hLn
            subst hcn
            rw [Nat.sub_self] at cP
            go_wp2_with fail
            refine cP.mono ?_
            rintro e' W5 ⟨fv, rfl, hF⟩
            have hb5 := hF.2
            have hfo := hF.over (lt_of_block b6)
            have hf := hF.fin
            have b6 := blk_later b6 hb5
            have b11 := blk_later b11 hb5
            have S12 := S12.later hb5
            clear hF hb5
            obtain ⟨fa, fc, hfv⟩ : ∃ a c, fv = .slice a fs.length c := by obtain ⟨a, c, h, _⟩ := hf; exact ⟨a, c, h⟩
            subst hfv
            clear hf
            go_wp2_with fail
            go_meet
            case rel => exact ⟨rfl, ⟨fa, fc, rfl⟩, rfl, hfo, b6, b11, S12⟩
          · rw [if_neg hcn] at cP
            go_wp2_with fail
            refine cP.mono ?_
            rintro e' W5 ⟨fv, rfl, hF⟩
            have hb5 := hF.2
            have hfo := hF.over (lt_of_block b6)
            have hf := hF.fin
            have b6 := blk_later b6 hb5
            have b11 := blk_later b11 hb5
            have S12 := S12.later hb5
            clear hF hb5
            obtain ⟨fa, fc, hfv⟩ : ∃ a c, fv = .slice a fs.length c := by obtain ⟨a, c, h, _⟩ := hf; exact ⟨a, c, h⟩
            subst hfv
            clear hf
            go_wp2_with fail
            go_meet
            case rel => exact ⟨rfl, ⟨fa, fc, rfl⟩, rfl, hfo, b6, b11, S12⟩
        case rest =>
          obtain ⟨rfl, ⟨fa, fc, rfl⟩, rfl, hF, b6, b11, S12⟩ := hcut
          clear cP
          have hb := S12.below
          by_cases p11 : e2 = 11
          · have HR := Lib.hid (Ms.told_wait (method := m) HSN.out (by rw [HP.out]; exact p11))
            subst p11
            go_wp2_with (first | (refine ldM b11 rfl (.tmp 11) rfl rfl ?_) | (refine stM b6 rfl (.tmp 6) (.tmp 57) rfl _ _ _ _ _ _ _ _ _ _ _ rfl rfl ?_; intro W9 h9 hb9 hk9))
            (try simp only [Exit.inBlock, Exit.then])
            refine ret_msg rfl g6 _ _ _ _ _ _ _ rfl h9 rfl ?_
            exact mtold_zero HR.out (hb.trans (hb9 _ hgw))
          · have p11b : (e2 == 11) = false := beq_eq_false_iff_ne.2 p11
            by_cases p0 : e2 = 0
            case neg =>
              have HR := Lib.hid (Ms.told_fault (method := m) HSN.out (by rw [HP.out]) p0 p11)
              have p0b : (e2 != 0) = true := by simpa using p0
              go_wp2_with (first | (refine ldM b11 rfl (.tmp 11) rfl rfl ?_) | (refine stM b6 rfl (.tmp 6) (.tmp 61) rfl _ _ _ _ _ _ _ _ _ _ _ rfl rfl ?_; intro W9 h9 hb9 hk9))
              (try simp only [Exit.inBlock, Exit.then])
              refine ret_msg rfl g6 _ _ _ _ _ _ _ rfl h9 rfl ?_
              exact mtold_zero (k := 0) HR.out (hb.trans (hb9 _ hgw))
            case pos =>
              subst p0
              clear p11 p11b
              obtain ⟨⟨kd, sz, e3⟩, hfr⟩ : ∃ x, Ms.framed s fs m = x := ⟨_, rfl⟩
              have hkinds := Ms.framing_kinds s.status s.minor (Fld.get fs Ms.kTE) (Fld.get fs Ms.kCL) m
              rw [show Ms.framing s.status s.minor (Fld.get fs Ms.kTE) (Fld.get fs Ms.kCL) m = (kd, sz, e3) from hfr] at hkinds
              have HKI := Lib.hid hkinds
              have HFR := Lib.hid hfr
              clear hkinds hfr
              go_upto_region 15 with (refine ldS S12.cell rfl (.tmp 12) rfl rfl ?_)
              have hb5' : Below wc.heap.size wc (wc.alloc (.cells #[.string (str s.method), .string (str s.target), .int .i64 s.status, .string (str s.reason), .int .i64 s.minor, .slice fa fs.length fc, .slice none 0 0] 28)) := (Below.refl _ wc).alloc (Nat.le_refl _) _
              have b17 : (wc.alloc (.cells #[.string (str s.method), .string (str s.target), .int .i64 s.status, .string (str s.reason), .int .i64 s.minor, .slice fa fs.length fc, .slice none 0 0] 28)).heap[wc.heap.size]? = some (.cells #[.string (str s.method), .string (str s.target), .int .i64 s.status, .string (str s.reason), .int .i64 s.minor, .slice fa fs.length fc, .slice none 0 0] 28 (0, 0)) := heap_alloc_new wc _
              have l6 := lt_of_block b6
              have l11 := lt_of_block b11
              have b6 := blk_later b6 hb5'
              have b11 := blk_later b11 hb5'
              have hb5 := bt5 hb hb5'
              have HFA := Lib.hid (fun (W : World) (hbW : ∀ k, g6 < k → k < wc.heap.size → W.heap[k]? = (wc.alloc (.cells #[.string (str s.method), .string (str s.target), .int .i64 s.status, .string (str s.reason), .int .i64 s.minor, .slice fa fs.length fc, .slice none 0 0] 28)).heap[k]?) => hF W (fun k h1 h2 => (hbW k h1 h2).trans (hb5'.block k h2)))
              generalize wc.alloc (.cells #[.string (str s.method), .string (str s.target), .int .i64 s.status, .string (str s.reason), .int .i64 s.minor, .slice fa fs.length fc, .slice none 0 0] 28) = W5 at *
              obtain ⟨g17, hg17⟩ : ∃ g17, g17 = wc.heap.size := ⟨_, rfl⟩
              have hs5 : g17 ≤ W5.heap.size := by rw [hg17]; exact hb5'.size
              rw [← hg17] at b17 HFA ⊢
              have hgw17 : w.heap.size ≤ g17 := by rw [hg17]; exact hb.size
              have h617 : g6 < g17 := by omega
              have h1117 : g11 < g17 := by omega
              clear hb5' hF S12 hb hg17 l6 l11 h612 h1112
              have cF := framing_w s (.slice fa fs.length fc) (.slice none 0 0) fs m W5 (HFA.out W5 (fun _ _ _ => rfl)) ⟨by have := HSM.out.1; omega, fun f hf => by
                have h1 := HSM.out.2 f hf
                have h2 := HLL.out
                rw [List.length_drop] at h1
                omega⟩ (by have := HSM.out.1; omega) HM.out
              rw [mval_s, HFR.out] at cF
              simp only [] at cF
              go_wp2_with (refine ldM b17 rfl (.tmp 17) rfl rfl ?_)
              refine cF.mono ?_
              rintro e' W6 ⟨rfl, hb6'⟩
              have b6 := blk_later b6 hb6'
              have b11 := blk_later b11 hb6'
              have b17 := blk_later b17 hb6'
              have hb6 := bt5 hb5 hb6'
              have HB56 : Hid (Below g17 W5 W6) := Lib.hid (hb6'.mono hs5)
              clear cF hb5 hb6'
              by_cases f0 : e3 = 0
              case neg =>
                have HR := Lib.hid (Ms.told_frame (method := m) HSN.out HP.out (by rw [HFR.out]) f0)
                have f0b : (e3 != 0) = true := by simpa using f0
                go_wp2_with (first | (refine ldM b11 rfl (.tmp 11) rfl rfl ?_) | (refine stM b6 rfl (.tmp 6) (.tmp 75) rfl _ _ _ _ _ _ _ _ _ _ _ rfl rfl ?_; intro W9 h9 hb9 hk9))
                (try simp only [Exit.inBlock, Exit.then])
                refine ret_msg rfl g6 _ _ _ _ _ _ _ rfl h9 rfl ?_
                exact mtold_zero (k := 0) HR.out (hb6.trans (hb9 _ hgw))
              case pos =>
                subst f0
                obtain ⟨AT, hAT⟩ : ∃ AT, AT = nn + k := ⟨_, rfl⟩
                have hATi : (nn : Int) + (k : Int) = (AT : Int) := by omega
                have hAL : AT ≤ L := by have := HNL.out; omega
                have HATL := Lib.hid hAL
                have HATE := Lib.hid hAT
                have hai : (0 : Int) ≤ AT := by omega
                have haLi : (AT : Int) ≤ L := by omega
                clear hkl hAT
                by_cases k2 : kd = 2
                · subst k2
                  have cT := rTold_w _ (l.drop AT) W6 (by rw [List.length_drop]; have := HLL.out; omega) (HMID.out W6 hb6 AT hAL)
                  obtain ⟨⟨x, t, d, f⟩, hct⟩ : ∃ x, Ck.told (l.drop AT) = x := ⟨_, rfl⟩
                  rw [hct] at cT
                  simp only [] at cT
                  have HBT : Hid (Ms.bodyTold 2 sz.toNat (l.drop (nn + k)) = (x, t, d, f)) := Lib.hid (by rw [← HATE.out]; unfold Ms.bodyTold; rw [if_pos rfl]; exact hct)
                  have htl : t ≤ L - AT := by
                    have h1 := Ck.told_len (l.drop AT)
                    rw [hct, List.length_drop, ← HL.out] at h1
                    exact h1
                  have hti : (t : Int) ≤ 100000 := by omega
                  clear hct
                  go_upto_region 20 with fail
                  go_cut [21, 22, 23, 24] (fun x21 x22 x23 x24 wx => (∃ ua un uc, x21 = .slice ua un uc) ∧ BOver g17 wx x21 x ∧ x22 = .int .i64 t ∧ x23 = .bool d ∧ x24 = .int .i64 f ∧ wx.heap[g6]? = some (.cells #[.string ⟨#[]⟩, .string ⟨#[]⟩, .int .i64 0, .string ⟨#[]⟩, .int .i64 0, .slice none 0 0, .slice none 0 0] 28 (0, 0)) ∧ wx.heap[g11]? = some (.cells #[.string ⟨#[]⟩, .string ⟨#[]⟩, .int .i64 0, .string ⟨#[]⟩, .int .i64 0, .slice none 0 0, .slice none 0 0] 28 (0, 0)) ∧ wx.heap[g17]? = some (.cells #[.string (str s.method), .string (str s.target), .int .i64 s.status, .string (str s.reason), .int .i64 s.minor, .slice fa fs.length fc, .slice none 0 0] 28 (0, 0)) ∧ Below W6.heap.size W6 wx)
                  case first =>
                    by_cases hcn : c = AT
                    · rw [if_pos hcn] at cT
                      have hLn : L = AT := by omega
                      clear HMID HL HV HP HSN HSM HNL HATL HATE HBT HFR HKI
                      subst hLn
                      subst hcn
                      rw [Nat.sub_self] at cT
                      go_wp2_with fail
                      refine cT.mono ?_
                      rintro e' W7 ⟨⟨u, rfl, hU⟩, hb7⟩
                      have hu := hU.in_
                      have huo := hU.over (lt_of_block b17)
                      have b6 := blk_later b6 hb7
                      have b11 := blk_later b11 hb7
                      have b17 := blk_later b17 hb7
                      obtain ⟨ua, un, uc, hus⟩ : ∃ a n c, u = .slice a n c := by obtain ⟨⟨a, c, h, _⟩, _⟩ := hu; exact ⟨a, _, c, h⟩
                      subst hus
                      clear hU
                      go_wp2_with fail
                      go_meet
                      case rel => exact ⟨⟨ua, un, uc, rfl⟩, huo, rfl, rfl, rfl, b6, b11, b17, hb7⟩
                    · rw [if_neg hcn] at cT
                      go_wp2_with fail
                      refine cT.mono ?_
                      rintro e' W7 ⟨⟨u, rfl, hU⟩, hb7⟩
                      have hu := hU.in_
                      have huo := hU.over (lt_of_block b17)
                      have b6 := blk_later b6 hb7
                      have b11 := blk_later b11 hb7
                      have b17 := blk_later b17 hb7
                      obtain ⟨ua, un, uc, hus⟩ : ∃ a n c, u = .slice a n c := by obtain ⟨⟨a, c, h, _⟩, _⟩ := hu; exact ⟨a, _, c, h⟩
                      subst hus
                      clear hU
                      go_wp2_with fail
                      go_meet
                      case rel => exact ⟨⟨ua, un, uc, rfl⟩, huo, rfl, rfl, rfl, b6, b11, b17, hb7⟩
                  case rest =>
                    obtain ⟨⟨ua, un, uc, rfl⟩, hu, rfl, rfl, rfl, b6, b11, b17, hb7'⟩ := hcut
                    have hb7 := bt5 hb6 hb7'
                    have h567 : Below g17 W5 wc := HB56.out.trans (hb7'.mono (Nat.le_trans hs5 HB56.out.size))
                    clear cT hb6 hb7'
                    by_cases g0 : f = 0
                    case neg =>
                      have HR := Lib.hid (Ms.told_bodyBad (method := m) HSN.out HP.out HFR.out (by rw [HBT.out]) g0)
                      have g0b : (f != 0) = true := by simpa using g0
                      go_wp2_with (first | (refine ldM b11 rfl (.tmp 11) rfl rfl ?_) | (refine stM b6 rfl (.tmp 6) (.tmp 93) rfl _ _ _ _ _ _ _ _ _ _ _ rfl rfl ?_; intro W9 h9 hb9 hk9))
                      (try simp only [Exit.inBlock, Exit.then])
                      refine ret_msg rfl g6 _ _ _ _ _ _ _ rfl h9 rfl ?_
                      exact mtold_zero (k := 0) HR.out (hb7.trans (hb9 _ hgw))
                    case pos =>
                      subst g0
                      have HR := Lib.hid (Ms.told_body (method := m) HSN.out HP.out HFR.out HBT.out)
                      rw [← HATE.out] at HR
                      obtain ⟨_, _, _, _, _, _, c6⟩ := set7 b17
                      have q6 := freeM b17 6
                      go_upto_region 24 with fail
                      have l17 := lt_of_block b17
                      have b17 := putM b17 (.slice ua un uc)
                      have hp8 := putM_below (W := wc) (g := g17) (v := .slice ua un uc) g17 (Nat.le_refl _) 6
                      have b6 : (wc.setCell ⟨g17, 6, none⟩ (.slice ua un uc)).heap[g6]? = some (.cells #[.string ⟨#[]⟩, .string ⟨#[]⟩, .int .i64 0, .string ⟨#[]⟩, .int .i64 0, .slice none 0 0, .slice none 0 0] 28 (0, 0)) := (hp8.block g6 h617).trans b6
                      have hbase := hb7.trans (putM_below (W := wc) (g := g17) (v := .slice ua un uc) w.heap.size hgw17 6)
                      have HU := Lib.hid (fun (W : World) (hk : ∀ k, k ≠ g6 → W.heap[k]? = (wc.setCell ⟨g17, 6, none⟩ (.slice ua un uc)).heap[k]?) => (⟨hu W (fun k h1 _ => (hk k (by omega)).trans (Below.heap_setCell _ _ _ _ (by simp; omega))), HFA.out W (fun k h1 h2 => (hk k (by omega)).trans ((hp8.block k h2).trans (h567.block k h2)))⟩ : (BIn W (.slice ua un uc) x ∧ NilOk (.slice ua un uc)) ∧ FIn W (.slice fa fs.length fc) fs))
                      clear hu hp8 h567 c6 q6 hb7 l17
                      generalize wc.setCell ⟨g17, 6, none⟩ (.slice ua un uc) = W8 at *
                      go_wp2_with (first | (refine ldM b17 rfl (.tmp 17) rfl rfl ?_) | (refine stM b6 rfl (.tmp 6) (.tmp 97) rfl _ _ _ _ _ _ _ _ _ _ _ rfl rfl ?_; intro W9 h9 hb9 hk9))
                      (try simp only [Exit.inBlock, Exit.then])
                      refine ret_msg rfl g6 _ _ _ _ _ _ _ rfl h9 rfl ?_
                      have hz := HU.out W9 hk9
                      exact mtold_msg HR.out hz.2 hz.1.1 hz.1.2 (hbase.trans (hb9 _ hgw))
                · obtain ⟨szn, hsz, hszn⟩ : ∃ szn : Nat, sz = (szn : Int) ∧ szn ≤ 1048576 := by
                    rcases HKI.out with ⟨_, h⟩ | ⟨_, _, h1, h2⟩ | ⟨h, _⟩
                    · exact ⟨0, by simpa using h, by omega⟩
                    · have h1 : 0 ≤ sz := h1
                      have h2 : sz ≤ 1048576 := h2
                      exact ⟨sz.toNat, by omega, by omega⟩
                    · exact absurd h k2
                  subst hsz
                  have k2b : (kd == 2) = false := beq_eq_false_iff_ne.2 k2
                  obtain ⟨X, hX⟩ : ∃ X, X = (l.drop AT).take szn := ⟨_, rfl⟩
                  have HBT : Hid (Ms.bodyTold kd (szn : Int).toNat (l.drop (nn + k)) = (X, X.length, decide (X.length = szn), 0)) := Lib.hid (by rw [← HATE.out, hX]; unfold Ms.bodyTold; rw [if_neg k2, Int.toNat_natCast])
                  have HR := Lib.hid (Ms.told_body (method := m) HSN.out HP.out HFR.out HBT.out)
                  rw [← HATE.out] at HR
                  have hXl : X.length = min szn (L - AT) := by rw [hX, List.length_take, List.length_drop, ← HL.out]
                  have HXE : Hid (∀ E, AT ≤ E → (E = L ∧ E ≤ AT + szn ∨ E = AT + szn ∧ E ≤ L) → X = (l.take E).drop AT) := Lib.hid (fun E h0 h1 => by
                    rw [hX, List.drop_take]
                    rcases h1 with ⟨h1, h2⟩ | ⟨h1, h2⟩
                    · rw [List.take_of_length_le (by rw [List.length_drop, ← HL.out]; omega), List.take_of_length_le (by rw [List.length_drop, ← HL.out]; omega)]
                    · rw [h1, Nat.add_sub_cancel_left])
                  have HMX := Lib.hid (fun (W : World) (hb : Below w.heap.size w W) (E : Nat) (h1 : AT ≤ E) (h2 : E ≤ L) => (HV.out W hb).mid AT E h1 (by rw [← HL.out]; exact h2))
                  have HXL := Lib.hid hXl
                  obtain ⟨_, _, _, _, _, _, c6⟩ := set7 b17
                  have q6 := freeM b17 6
                  have hszi : (szn : Int) ≤ 1048576 := by omega
                  have hsz0 : (0 : Int) ≤ szn := by omega
                  clear hX hXl k2
                  go_upto_region 25 with fail
                  go_wp2_with fail
                  go_loop [25] (fun x25 => ∃ E : Nat, x25 = .int .i64 E ∧ AT ≤ E ∧ E ≤ L ∧ E ≤ AT + szn) (fun x25 => L - (intOf x25).toNat)
                  case atStart => exact ⟨AT, rfl, Nat.le_refl _, hAL, Nat.le_add_right _ _⟩
                  case round =>
                    obtain ⟨E, rfl, h1, h2, h3⟩ := hrel
                    have hE0 : (0 : Int) ≤ E := by omega
                    have hE9 : (E : Int) ≤ L := by omega
                    by_cases hEL : E < L
                    · have hELi : (E : Int) < L := by omega
                      by_cases hEA : E < AT + szn
                      · have hEAi : (E : Int) < (AT : Int) + szn := by omega
                        clear hEL hEA
                        go_wp2_with fail
                        go_round
                        case rel => exact ⟨E + 1, by go_num, by omega, by omega, by omega⟩
                        case measure => simp [intOf]; omega
                      · have hEAi : ¬ (E : Int) < (AT : Int) + szn := by omega
                        have hX := HXE.out E h1 (.inr ⟨by omega, h2⟩)
                        have hEX : AT + X.length = E := by rw [HXL.out]; omega
                        clear hEL hEA
                        obtain ⟨dd, hdd⟩ : ∃ dd, ((E : Int) == (AT : Int) + (szn : Int)) = dd := ⟨_, rfl⟩
                        have hdx : decide (X.length = szn) = dd := by
                          rw [← hdd, Bool.eq_iff_iff, beq_iff_eq, decide_eq_true_iff]; omega
                        rw [hdx, hEX] at HR
                        have hmx := HMX.out W6.drew (hb6.drew) E h1 h2
                        rw [← hX] at hmx
                        have hXn : X.length ≤ 1000000000 := by have h8 := HLL.out; have h9 := HL.out; omega
                        have hAEi : (AT : Int) ≤ E := by omega
                        have hEc : (E : Int) ≤ c := by omega
                        clear hdx hX hEX
                        by_cases hcn : c = AT
                        · rw [if_pos hcn] at hmx
                          have hEq : E = AT := by omega
                          clear HMX HXE HXL HATL HATE HBT HFR HKI HMID HL HV HP HSN HSM HNL
                          subst hEq
                          subst hcn
                          rw [Nat.sub_self] at hmx
                          go_wp2_with fail
                          go_region_law (refine appN (W := W6) (Below.refl _ W6).drew hmx ⟨_, _, _, rfl⟩ hXn (.tmp 117) (.tmp 121) rfl rfl rfl ?_; intro v8 W8 hB8 hb8; obtain ⟨va, vn, vc, hv8⟩ : ∃ a n c, v8 = .slice a n c := (by obtain ⟨⟨a, c, h, _⟩, _⟩ := hB8.in_; exact ⟨a, _, c, h⟩); subst hv8; have b17n := blk_later b17 hB8.2; obtain ⟨_, _, _, _, _, _, c8⟩ := set7 b17n; have q8 := freeM b17n 6)
                          all_goals
                            have b17p := putM b17n (.slice va vn vc)
                            have hp8 := putM_below (W := W8) (g := g17) (v := .slice va vn vc) g17 (Nat.le_refl _) 6
                            have b6p : (W8.setCell ⟨g17, 6, none⟩ (.slice va vn vc)).heap[g6]? = some (.cells #[.string ⟨#[]⟩, .string ⟨#[]⟩, .int .i64 0, .string ⟨#[]⟩, .int .i64 0, .slice none 0 0, .slice none 0 0] 28 (0, 0)) := (hp8.block g6 h617).trans (blk_later b6 hB8.2)
                            have hbase := (bt5 hb6 hB8.2).trans (putM_below (W := W8) (g := g17) (v := .slice va vn vc) w.heap.size hgw17 6)
                            have huo := hB8.over (lt_of_block b17)
                            have h568 : Below g17 W5 W8 := HB56.out.trans (hB8.2.mono (Nat.le_trans hs5 HB56.out.size))
                            have HU := Lib.hid (fun (W : World) (hk : ∀ k, k ≠ g6 → W.heap[k]? = (W8.setCell ⟨g17, 6, none⟩ (.slice va vn vc)).heap[k]?) => (⟨huo W (fun k h1 _ => (hk k (by omega)).trans (Below.heap_setCell _ _ _ _ (by simp; omega))), HFA.out W (fun k h1 h2 => (hk k (by omega)).trans ((hp8.block k h2).trans (h568.block k h2)))⟩ : (BIn W (.slice va vn vc) X ∧ NilOk (.slice va vn vc)) ∧ FIn W (.slice fa fs.length fc) fs))
                            clear huo hp8 h568 c6 q6 c8 q8 hb8 hB8 b17n hmx
                            generalize W8.setCell ⟨g17, 6, none⟩ (.slice va vn vc) = W10 at *
                            go_wp2_with (first | (refine ldM b17p rfl (.tmp 17) rfl rfl ?_) | (refine stM b6p rfl (.tmp 6) (.tmp 124) rfl _ _ _ _ _ _ _ _ _ _ _ rfl rfl ?_; intro W9 h9 hb9 hk9))
                            (try simp only [Exit.inBlock, Exit.then])
                            refine ret_msg rfl g6 _ _ _ _ _ _ _ rfl h9 rfl ?_
                            have hz := HU.out W9 hk9
                            exact mtold_msg HR.out hz.2 hz.1.1 hz.1.2 (hbase.trans (hb9 _ hgw))
                        · rw [if_neg hcn] at hmx
                          go_wp2_with fail
                          go_region_law (refine appN (W := W6) (Below.refl _ W6).drew hmx ⟨_, _, _, rfl⟩ hXn (.tmp 117) (.tmp 121) rfl rfl rfl ?_; intro v8 W8 hB8 hb8; obtain ⟨va, vn, vc, hv8⟩ : ∃ a n c, v8 = .slice a n c := (by obtain ⟨⟨a, c, h, _⟩, _⟩ := hB8.in_; exact ⟨a, _, c, h⟩); subst hv8; have b17n := blk_later b17 hB8.2; obtain ⟨_, _, _, _, _, _, c8⟩ := set7 b17n; have q8 := freeM b17n 6)
                          all_goals
                            have b17p := putM b17n (.slice va vn vc)
                            have hp8 := putM_below (W := W8) (g := g17) (v := .slice va vn vc) g17 (Nat.le_refl _) 6
                            have b6p : (W8.setCell ⟨g17, 6, none⟩ (.slice va vn vc)).heap[g6]? = some (.cells #[.string ⟨#[]⟩, .string ⟨#[]⟩, .int .i64 0, .string ⟨#[]⟩, .int .i64 0, .slice none 0 0, .slice none 0 0] 28 (0, 0)) := (hp8.block g6 h617).trans (blk_later b6 hB8.2)
                            have hbase := (bt5 hb6 hB8.2).trans (putM_below (W := W8) (g := g17) (v := .slice va vn vc) w.heap.size hgw17 6)
                            have huo := hB8.over (lt_of_block b17)
                            have h568 : Below g17 W5 W8 := HB56.out.trans (hB8.2.mono (Nat.le_trans hs5 HB56.out.size))
                            have HU := Lib.hid (fun (W : World) (hk : ∀ k, k ≠ g6 → W.heap[k]? = (W8.setCell ⟨g17, 6, none⟩ (.slice va vn vc)).heap[k]?) => (⟨huo W (fun k h1 _ => (hk k (by omega)).trans (Below.heap_setCell _ _ _ _ (by simp; omega))), HFA.out W (fun k h1 h2 => (hk k (by omega)).trans ((hp8.block k h2).trans (h568.block k h2)))⟩ : (BIn W (.slice va vn vc) X ∧ NilOk (.slice va vn vc)) ∧ FIn W (.slice fa fs.length fc) fs))
                            clear huo hp8 h568 c6 q6 c8 q8 hb8 hB8 b17n hmx
                            generalize W8.setCell ⟨g17, 6, none⟩ (.slice va vn vc) = W10 at *
                            go_wp2_with (first | (refine ldM b17p rfl (.tmp 17) rfl rfl ?_) | (refine stM b6p rfl (.tmp 6) (.tmp 124) rfl _ _ _ _ _ _ _ _ _ _ _ rfl rfl ?_; intro W9 h9 hb9 hk9))
                            (try simp only [Exit.inBlock, Exit.then])
                            refine ret_msg rfl g6 _ _ _ _ _ _ _ rfl h9 rfl ?_
                            have hz := HU.out W9 hk9
                            exact mtold_msg HR.out hz.2 hz.1.1 hz.1.2 (hbase.trans (hb9 _ hgw))
                    · have hELi : ¬ (E : Int) < L := by omega
                      have hX := HXE.out E h1 (.inl ⟨by omega, h3⟩)
                      have hEX : AT + X.length = E := by rw [HXL.out]; omega
                      clear hEL
                      obtain ⟨dd, hdd⟩ : ∃ dd, ((E : Int) == (AT : Int) + (szn : Int)) = dd := ⟨_, rfl⟩
                      have hdx : decide (X.length = szn) = dd := by
                        rw [← hdd, Bool.eq_iff_iff, beq_iff_eq, decide_eq_true_iff]; omega
                      rw [hdx, hEX] at HR
                      have hmx := HMX.out W6.drew (hb6.drew) E h1 h2
                      rw [← hX] at hmx
                      have hXn : X.length ≤ 1000000000 := by have h8 := HLL.out; have h9 := HL.out; omega
                      have hAEi : (AT : Int) ≤ E := by omega
                      have hEc : (E : Int) ≤ c := by omega
                      clear hdx hX hEX
                      by_cases hcn : c = AT
                      · rw [if_pos hcn] at hmx
                        have hEq : E = AT := by omega
                        clear HMX HXE HXL HATL HATE HBT HFR HKI HMID HL HV HP HSN HSM HNL
                        subst hEq
                        subst hcn
                        rw [Nat.sub_self] at hmx
                        go_wp2_with fail
                        go_region_law (refine appN (W := W6) (Below.refl _ W6).drew hmx ⟨_, _, _, rfl⟩ hXn (.tmp 117) (.tmp 121) rfl rfl rfl ?_; intro v8 W8 hB8 hb8; obtain ⟨va, vn, vc, hv8⟩ : ∃ a n c, v8 = .slice a n c := (by obtain ⟨⟨a, c, h, _⟩, _⟩ := hB8.in_; exact ⟨a, _, c, h⟩); subst hv8; have b17n := blk_later b17 hB8.2; obtain ⟨_, _, _, _, _, _, c8⟩ := set7 b17n; have q8 := freeM b17n 6)
                        all_goals
                          have b17p := putM b17n (.slice va vn vc)
                          have hp8 := putM_below (W := W8) (g := g17) (v := .slice va vn vc) g17 (Nat.le_refl _) 6
                          have b6p : (W8.setCell ⟨g17, 6, none⟩ (.slice va vn vc)).heap[g6]? = some (.cells #[.string ⟨#[]⟩, .string ⟨#[]⟩, .int .i64 0, .string ⟨#[]⟩, .int .i64 0, .slice none 0 0, .slice none 0 0] 28 (0, 0)) := (hp8.block g6 h617).trans (blk_later b6 hB8.2)
                          have hbase := (bt5 hb6 hB8.2).trans (putM_below (W := W8) (g := g17) (v := .slice va vn vc) w.heap.size hgw17 6)
                          have huo := hB8.over (lt_of_block b17)
                          have h568 : Below g17 W5 W8 := HB56.out.trans (hB8.2.mono (Nat.le_trans hs5 HB56.out.size))
                          have HU := Lib.hid (fun (W : World) (hk : ∀ k, k ≠ g6 → W.heap[k]? = (W8.setCell ⟨g17, 6, none⟩ (.slice va vn vc)).heap[k]?) => (⟨huo W (fun k h1 _ => (hk k (by omega)).trans (Below.heap_setCell _ _ _ _ (by simp; omega))), HFA.out W (fun k h1 h2 => (hk k (by omega)).trans ((hp8.block k h2).trans (h568.block k h2)))⟩ : (BIn W (.slice va vn vc) X ∧ NilOk (.slice va vn vc)) ∧ FIn W (.slice fa fs.length fc) fs))
                          clear huo hp8 h568 c6 q6 c8 q8 hb8 hB8 b17n hmx
                          generalize W8.setCell ⟨g17, 6, none⟩ (.slice va vn vc) = W10 at *
                          go_wp2_with (first | (refine ldM b17p rfl (.tmp 17) rfl rfl ?_) | (refine stM b6p rfl (.tmp 6) (.tmp 124) rfl _ _ _ _ _ _ _ _ _ _ _ rfl rfl ?_; intro W9 h9 hb9 hk9))
                          (try simp only [Exit.inBlock, Exit.then])
                          refine ret_msg rfl g6 _ _ _ _ _ _ _ rfl h9 rfl ?_
                          have hz := HU.out W9 hk9
                          exact mtold_msg HR.out hz.2 hz.1.1 hz.1.2 (hbase.trans (hb9 _ hgw))
                      · rw [if_neg hcn] at hmx
                        go_wp2_with fail
                        go_region_law (refine appN (W := W6) (Below.refl _ W6).drew hmx ⟨_, _, _, rfl⟩ hXn (.tmp 117) (.tmp 121) rfl rfl rfl ?_; intro v8 W8 hB8 hb8; obtain ⟨va, vn, vc, hv8⟩ : ∃ a n c, v8 = .slice a n c := (by obtain ⟨⟨a, c, h, _⟩, _⟩ := hB8.in_; exact ⟨a, _, c, h⟩); subst hv8; have b17n := blk_later b17 hB8.2; obtain ⟨_, _, _, _, _, _, c8⟩ := set7 b17n; have q8 := freeM b17n 6)
                        all_goals
                          have b17p := putM b17n (.slice va vn vc)
                          have hp8 := putM_below (W := W8) (g := g17) (v := .slice va vn vc) g17 (Nat.le_refl _) 6
                          have b6p : (W8.setCell ⟨g17, 6, none⟩ (.slice va vn vc)).heap[g6]? = some (.cells #[.string ⟨#[]⟩, .string ⟨#[]⟩, .int .i64 0, .string ⟨#[]⟩, .int .i64 0, .slice none 0 0, .slice none 0 0] 28 (0, 0)) := (hp8.block g6 h617).trans (blk_later b6 hB8.2)
                          have hbase := (bt5 hb6 hB8.2).trans (putM_below (W := W8) (g := g17) (v := .slice va vn vc) w.heap.size hgw17 6)
                          have huo := hB8.over (lt_of_block b17)
                          have h568 : Below g17 W5 W8 := HB56.out.trans (hB8.2.mono (Nat.le_trans hs5 HB56.out.size))
                          have HU := Lib.hid (fun (W : World) (hk : ∀ k, k ≠ g6 → W.heap[k]? = (W8.setCell ⟨g17, 6, none⟩ (.slice va vn vc)).heap[k]?) => (⟨huo W (fun k h1 _ => (hk k (by omega)).trans (Below.heap_setCell _ _ _ _ (by simp; omega))), HFA.out W (fun k h1 h2 => (hk k (by omega)).trans ((hp8.block k h2).trans (h568.block k h2)))⟩ : (BIn W (.slice va vn vc) X ∧ NilOk (.slice va vn vc)) ∧ FIn W (.slice fa fs.length fc) fs))
                          clear huo hp8 h568 c6 q6 c8 q8 hb8 hB8 b17n hmx
                          generalize W8.setCell ⟨g17, 6, none⟩ (.slice va vn vc) = W10 at *
                          go_wp2_with (first | (refine ldM b17p rfl (.tmp 17) rfl rfl ?_) | (refine stM b6p rfl (.tmp 6) (.tmp 124) rfl _ _ _ _ _ _ _ _ _ _ _ rfl rfl ?_; intro W9 h9 hb9 hk9))
                          (try simp only [Exit.inBlock, Exit.then])
                          refine ret_msg rfl g6 _ _ _ _ _ _ _ rfl h9 rfl ?_
                          have hz := HU.out W9 hk9
                          exact mtold_msg HR.out hz.2 hz.1.1 hz.1.2 (hbase.trans (hb9 _ hgw))
end Go.Proofs.YtlbjjeonchcgbaaGreatDoor
