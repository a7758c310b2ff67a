/- Package journal, the program: a journal in memory; a record more. -/
import Derived.Test.YtjdmmnpfjbnhoaaJvN
namespace Go.Proofs.Ytjdmmnpfjbnhoaa
open Go.RowKit

/-- A record as a journal keeps it: its number, its sector, its puts. -/
abbrev Rec := Int × Nat × List Jr.Put
def rc (x : Rec × Value) : List Value := [.int .i64 x.1.1, .int .i64 (x.1.2.1 : Int), x.2]
section
variable {G G' : Nat → Prop} {n₀ : Nat} {w w' : World} {v : Value} {rs : List Rec}
def Recs (G : Nat → Prop) (w : World) (v : Value) (rs : List Rec) : Prop := ∃ vs : List Value, vs.length = rs.length ∧ w.ownsRow 0 77 3 v rs.length ((rs.zip vs).flatMap rc) ∧ (∀ k, v.ownBlock = some k → G k) ∧ ∀ i (h1 : i < vs.length) (h2 : i < rs.length), PRow G w vs[i] rs[i].2.2
theorem Recs.nil (G : Nat → Prop) (w : World) : Recs G w (.slice none 0 0) [] := ⟨[], rfl, World.ownsRow_nil _ _ _ _, (fun k hk => by cases hk), fun i h1 _ => by cases h1⟩
theorem Recs.keepT (h : Recs G w v rs) (hG : ∀ k, G k → G' k) (hk : ∀ k C T f, G k → w.heap[k]? = some (.cells C T f) → T = 77 ∨ T = 37 ∨ T = 5 → w'.heap[k]? = w.heap[k]?) : Recs G' w' v rs := by
  obtain ⟨vs, h1, h2, h3, h4⟩ := h
  exact ⟨vs, h1, ownsRow_keep h2 (fun k hv => by
    obtain ⟨C, hC⟩ := row_block h2 hv
    exact hk k C _ _ (h3 k hv) hC (.inl rfl)), fun k hv => hG k (h3 k hv), fun i i1 i2 => (h4 i i1 i2).keepT hG (fun k C T f hg hc hT => hk k C T f hg hc (.inr hT))⟩
theorem Recs.keep (h : Recs G w v rs) (hG : ∀ k, G k → G' k) (hk : ∀ k, G k → k < w.heap.size → w'.heap[k]? = w.heap[k]?) : Recs G' w' v rs := h.keepT hG (fun k C T f hg hc _ => hk k hg (lt_of_block hc))
theorem Recs.type (h : Recs G w v rs) {k : Nat} (hk : v.ownBlock = some k) : ∃ C, w.heap[k]? = some (.cells C 77 (0, 0)) := row_block h.choose_spec.2.1 hk
theorem Recs.shape (h : Recs G w v rs) : ∃ a c, v = .slice a rs.length c ∧ rs.length ≤ c ∧ c ≤ 9223372036854775807 ∧ (rs ≠ [] → ∃ b, a = some ⟨b, 0, none⟩) := by
  rcases h.choose_spec.2.1.2 with ⟨hv, h0⟩ | ⟨g, cap, cur, hv, hb, hh, h1, h2, _⟩
  · exact ⟨none, 0, by rw [hv, h0], by omega, by decide, fun hn => absurd (List.eq_nil_of_length_eq_zero h0) hn⟩
  · exact ⟨_, cap, hv, h1, by unfold maxLen at h2; omega, fun _ => ⟨g, rfl⟩⟩
/-- One of the records. -/
theorem Recs.nth {b n cap : Nat} (h : Recs G w (.slice (some ⟨b, 0, none⟩) n cap) rs) {k : Nat} {x : Rec} (hx : rs[k]? = some x) : ∃ pv : Value, w.cell? ⟨b, k * 3, none⟩ = some (.int .i64 x.1) ∧ w.cell? ⟨b, k * 3 + 1, none⟩ = some (.int .i64 (x.2.1 : Int)) ∧ w.cell? ⟨b, k * 3 + 2, none⟩ = some pv ∧ PRow G w pv x.2.2 := by
  obtain ⟨vs, h1, h2, h3, h4⟩ := h
  obtain ⟨hk, he⟩ := List.getElem?_eq_some_iff.1 hx
  rcases h2.2 with ⟨hv, h0⟩ | ⟨g, cap', cur, hv, hg, hh, h5, h6, h7, h8⟩
  · cases hv
  · cases hv
    have hz : k < (rs.zip vs).length := by rw [List.length_zip]; omega
    have hfl := fun j (hj : j < 3) => Dv.flat_at (f := rc) (c := 3) (ls := rs.zip vs) (fun x _ => rfl) k j hz hj
    have h9 : ∀ j, j < 3 → cur[k * 3 + j]? = (rc (rs.zip vs)[k])[j]? := fun j hj => by
      rw [← hfl j hj, ← h8, List.getElem?_take_of_lt (by omega)]
      simp
    have e : (rs.zip vs)[k] = (x, vs[k]'(by omega)) := by simp [he]
    rw [e] at h9
    have hP := h4 k (by omega) hk
    rw [he] at hP
    refine ⟨vs[k]'(by omega), ?_, ?_, ?_, hP⟩
    · have := h9 0 (by decide)
      simp only [World.cell?, hh]
      simpa [rc] using this
    · have := h9 1 (by decide)
      simp only [World.cell?, hh]
      simpa [rc] using this
    · have := h9 2 (by decide)
      simp only [World.cell?, hh]
      simpa [rc] using this
theorem record_info : (Try.prog.info? 77).map (fun i => (i.zero, i.size, i.bytes)) = some (some (.agg #[.int .i64 0, .int .i64 0, .slice none 0 0]), 3, 40) := by kernel_rfl
theorem Recs.app {ops : Array Oper} {rest : List Oper} {o : Oper} {a : Act} {Q : Exit → Act → World → Prop} {pa : Option Addr} {pl pcap : Nat} {x : Rec} {q : Nat} {f : Nat × Nat} (h : Recs G w v rs) (hq : w.heap[q]? = some (.cells #[.int .i64 x.1, .int .i64 (x.2.1 : Int), .slice pa pl pcap] 77 f)) (hy : PRow G w (.slice pa pl pcap) x.2.2) (hl : rs.length ≤ 1000000) (hG : ∀ k, w.heap.size ≤ k → G k)
    (hgd : o.guard = none) (s z : Operand) (ho : o.op = .call { callee := .builtin .append, args := #[s, z], argTypes := #[67, 67] }) (hs : a.eval s = v) (hz : a.eval z = .slice (some ⟨q, 0, none⟩) 1 1)
    (hK : ∀ v' w', Recs G w' v' (rs ++ [x]) → w.grownBy w' v.ownBlock → wpList Try.prog ops Q rest (a.put o.dst v') w') : wpList Try.prog ops Q (o :: rest) a w := by
  have hnr : ∀ k C T f, w.heap[k]? = some (Obj.cells C T f) → T = 37 ∨ T = 5 → v.ownBlock ≠ some k := fun k C T f hC hT e => by
    obtain ⟨C9, hC9⟩ := h.type e
    rcases hT with rfl | rfl
    · exact ne_block hC hC9 (by decide) rfl
    · exact ne_block hC hC9 (by decide) rfl
  obtain ⟨vs, h1, h2, h3, h4⟩ := h
  obtain ⟨i0, hi0, hz0, hz1, hz2⟩ := info_parts record_info
  refine wpList_append_whose w hgd s z 67 ho 77 i0 _ 3 40 Try.underlying67 hi0 hz0 hz1 hz2 rfl (by decide) v rs.length _ hs h2 ⟨q, 0, none⟩ 1 1 [.int .i64 x.1, .int .i64 (x.2.1 : Int), .slice pa pl pcap] hz rfl (fun j u hj => ?_) (fun u hu => by
    rcases List.mem_cons.1 hu with rfl | hu
    · rfl
    · rcases List.mem_cons.1 hu with rfl | hu
      · rfl
      · rw [List.mem_singleton.1 hu]; rfl) (by unfold maxLen; omega) (by omega) (fun v' w' g1 g2 g3 => hK v' w' ⟨vs ++ [.slice pa pl pcap], by simp [h1], ?_, fun k hk => ?_, fun i i1 i2 => ?_⟩ g2)
  · match j, hj with
    | 0, hj =>
      simp only [List.getElem?_cons_zero, Option.some.injEq] at hj
      subst hj
      simp [World.cell?, hq, Addr.add]
    | 1, hj =>
      simp only [List.getElem?_cons_zero, List.getElem?_cons_succ, Option.some.injEq] at hj
      subst hj
      simp [World.cell?, hq, Addr.add]
    | 2, hj =>
      simp only [List.getElem?_cons_zero, List.getElem?_cons_succ, Option.some.injEq] at hj
      subst hj
      simp [World.cell?, hq, Addr.add]
  · rw [List.zip_append h1.symm, List.flatMap_append, List.length_append]
    exact g1
  · rcases g3 k hk with h | h
    · exact h3 k h
    · exact hG k h
  · have hkp : ∀ k C T f, G k → w.heap[k]? = some (Obj.cells C T f) → T = 37 ∨ T = 5 → w'.heap[k]? = w.heap[k]? := fun k C T f _ hC hT => g2.block k (lt_of_block hC) (fun e => hnr k C T f hC hT e.symm)
    by_cases hi : i < vs.length
    · simp only [List.getElem_append_left hi, List.getElem_append_left (show i < rs.length by omega)]
      exact (h4 i hi (by omega)).keepT (fun _ h => h) hkp
    · have e : i = vs.length := by simp at i1; omega
      have e1 : (vs ++ [.slice pa pl pcap])[i] = .slice pa pl pcap := by subst e; simp
      have e2 : (rs ++ [x])[i] = x := by simp [List.getElem_append_right (show rs.length ≤ i by omega), show i - rs.length = 0 by omega]
      rw [e1, e2]
      exact hy.keepT (fun _ h => h) hkp
end
/-- The journal's block, and what it keeps. -/
structure JIn (w : World) (q g : Nat) (G : Nat → Prop) (from_ n : Nat) (m next : Int) (at_ : Nat) (rs : List Rec) : Prop where
  ex : ∃ ov, w.heap[q]? = some (.cells #[.pointer (some ⟨g, 0, none⟩), .int .i64 (from_ : Int), .int .i64 (n : Int), .int .i64 m, .int .i64 next, .int .i64 (at_ : Int), ov] 69 (0, 0)) ∧ Recs G w ov rs
  hq : G q
theorem JIn.keep {w w' : World} {q g : Nat} {G G' : Nat → Prop} {from_ n : Nat} {m next : Int} {at_ : Nat} {rs : List Rec} (h : JIn w q g G from_ n m next at_ rs) (hG : ∀ k, G k → G' k) (hk : ∀ k, G k → k < w.heap.size → w'.heap[k]? = w.heap[k]?) : JIn w' q g G' from_ n m next at_ rs := by
  obtain ⟨⟨ov, h1, h2⟩, h3⟩ := h
  exact ⟨⟨ov, (hk q h3 (lt_of_block h1)).trans h1, h2.keep hG hk⟩, hG q h3⟩
end Go.Proofs.Ytjdmmnpfjbnhoaa
