/- The document's map in memory: New, Free, Waiting, Commit, Abort. -/
import Derived.Test.YtgfgafondiipoaaSpL1
namespace Go.Proofs.Ytgfgafondiipoaa
open Go.RowKit

def scs (m : Sp.M) : Array Value := (m.map (fun c => Value.int .i64 (c.1 : Int))).toArray
def wcs (m : Sp.M) : Array Value := (m.map (fun c => Value.bool c.2)).toArray
def rowv (b n : Nat) : Value := .slice (some ⟨b, 0, none⟩) n n
/-- The map at block q, its two rows at bs and bw. -/
structure RD (w : World) (q bs bw : Nat) (m : Sp.M) : Prop where
  blk : w.heap[q]? = some (.cells #[rowv bs m.length, rowv bw m.length] 56 (0, 0))
  st : w.heap[bs]? = some (.cells (scs m) 3 (0, 0))
  wt : w.heap[bw]? = some (.cells (wcs m) 4 (0, 0))
  len : m.length ≤ 65536
theorem ne_block {w : World} {g b : Nat} {C C' : Array Value} {T T' : TypeId} {m m' : Nat × Nat} (h : w.heap[g]? = some (.cells C T m)) (h' : w.heap[b]? = some (.cells C' T' m')) (hT : T ≠ T') : g ≠ b := fun e => by
  subst e
  rw [h] at h'
  injection h' with h'
  injection h' with _ h2
  exact hT h2
def RF (q bs bw : Nat) (k : Nat) : Prop := k = q ∨ k = bs ∨ k = bw
section
variable {w w' : World} {q bs bw : Nat} {m : Sp.M}
theorem RD.keep (h : RD w q bs bw m) (hk : ∀ k, RF q bs bw k → w'.heap[k]? = w.heap[k]?) : RD w' q bs bw m :=
  ⟨by rw [hk q (.inl rfl)]; exact h.blk, by rw [hk bs (.inr (.inl rfl))]; exact h.st, by rw [hk bw (.inr (.inr rfl))]; exact h.wt, h.len⟩
theorem RD.lt (h : RD w q bs bw m) : ∀ k, RF q bs bw k → k < w.heap.size := fun k hk => by
  rcases hk with rfl | rfl | rfl
  · exact lt_of_block h.blk
  · exact lt_of_block h.st
  · exact lt_of_block h.wt
theorem RD.later (h : RD w q bs bw m) (hb : Below w.heap.size w w') : RD w' q bs bw m := h.keep (fun k hk => hb.block k (h.lt k hk))
theorem RD.c0 (h : RD w q bs bw m) : w.cell? ⟨q, 0, none⟩ = some (.slice (some ⟨bs, 0, none⟩) m.length m.length) := (blk_cell h.blk 0 _ rfl).1
theorem RD.c1 (h : RD w q bs bw m) : w.cell? ⟨q, 1, none⟩ = some (.slice (some ⟨bw, 0, none⟩) m.length m.length) := (blk_cell h.blk 1 _ rfl).1
theorem RD.s (h : RD w q bs bw m) (k : Nat) (hk : k < m.length) : w.cell? ⟨bs, k, none⟩ = some (.int .i64 (m[k].1 : Int)) ∧ w.frozen? ⟨bs, k, none⟩ = false := blk_cell h.st k _ (by simp [scs, hk])
theorem RD.t (h : RD w q bs bw m) (k : Nat) (hk : k < m.length) : w.cell? ⟨bw, k, none⟩ = some (.bool m[k].2) ∧ w.frozen? ⟨bw, k, none⟩ = false := blk_cell h.wt k _ (by simp [wcs, hk])
theorem heap_set {C : Array Value} {T : TypeId} {b k : Nat} {v : Value} (h : w.heap[b]? = some (.cells C T (0, 0))) : (w.setCell ⟨b, k, none⟩ v).heap[b]? = some (.cells (C.setIfInBounds k v) T (0, 0)) := by
  obtain ⟨hl, hk9⟩ := Array.getElem?_eq_some_iff.1 h
  show (w.heap.modify b _)[b]? = _
  rw [Array.getElem?_eq_getElem (by rw [Array.size_modify]; exact hl), Array.getElem_modify_self, hk9]
  rfl
theorem RD.nes (h : RD w q bs bw m) : q ≠ bs ∧ q ≠ bw ∧ bs ≠ bw := ⟨ne_block h.blk h.st (by decide), ne_block h.blk h.wt (by decide), ne_block h.st h.wt (by decide)⟩
theorem RD.setS (h : RD w q bs bw m) (k : Nat) (hk : k < m.length) (s : Nat) (v : Int) (hv : v = s) : RD (w.setCell ⟨bs, k, none⟩ (.int .i64 v)) q bs bw (m.set k (s, m[k].2)) := by
  obtain ⟨n1, n2, n3⟩ := h.nes
  subst hv
  refine ⟨?_, ?_, ?_, by rw [List.length_set]; exact h.len⟩
  · rw [heap_setCell_other w ⟨bs, k, none⟩ q _ n1, List.length_set]; exact h.blk
  · rw [heap_set h.st]
    congr 2
    simp [scs, List.map_set]
  · rw [heap_setCell_other w ⟨bs, k, none⟩ bw _ (Ne.symm n3), h.wt]
    congr 2
    unfold wcs
    congr 1
    apply List.ext_getElem?
    intro i
    rw [List.getElem?_map, List.getElem?_map, List.getElem?_set]
    by_cases hi : k = i
    · subst hi; simp [hk]
    · rw [if_neg hi]
theorem RD.setW (h : RD w q bs bw m) (k : Nat) (hk : k < m.length) (b : Bool) : RD (w.setCell ⟨bw, k, none⟩ (.bool b)) q bs bw (m.set k (m[k].1, b)) := by
  obtain ⟨n1, n2, n3⟩ := h.nes
  refine ⟨?_, ?_, ?_, by rw [List.length_set]; exact h.len⟩
  · rw [heap_setCell_other w ⟨bw, k, none⟩ q _ n2, List.length_set]; exact h.blk
  · rw [heap_setCell_other w ⟨bw, k, none⟩ bs _ n3, h.st]
    congr 2
    unfold scs
    congr 1
    apply List.ext_getElem?
    intro i
    rw [List.getElem?_map, List.getElem?_map, List.getElem?_set]
    by_cases hi : k = i
    · subst hi; simp [hk]
    · rw [if_neg hi]
  · rw [heap_set h.wt]
    congr 2
    simp [wcs, List.map_set]
end
theorem cnt_snoc (f : Sp.Cell → Bool) (m : Sp.M) (k : Nat) (hk : k < m.length) : (m.take (k + 1)).countP f = (m.take k).countP f + if f m[k] then 1 else 0 := by
  rw [List.take_add_one, List.countP_append, List.getElem?_eq_getElem hk]; simp [List.countP_cons]
theorem cnt_le (f : Sp.Cell → Bool) (m : Sp.M) (k : Nat) : (m.take k).countP f ≤ m.length := Nat.le_trans List.countP_le_length (by rw [List.length_take]; omega)
set_option maxHeartbeats 1600000 in
set_option maxRecDepth 100000 in
theorem rFree_w (w : World) (q bs bw : Nat) (m : Sp.M) (h : RD w q bs bw m) :
    Calls Try.prog 24 #[.pointer (some ⟨q, 0, none⟩)] w fun e w' => e = .returned (.int .i64 (Sp.free m)) ∧ Below w.heap.size w w' := by
  have H := Lib.hid h
  have hlen := h.len
  obtain ⟨n, hn⟩ : ∃ n, n = m.length := ⟨_, rfl⟩
  have HN := Lib.hid hn
  have HR := Lib.hid (show ∀ wr, Below w.heap.size w wr → wr.cell? ⟨q, 0, none⟩ = some (.slice (some ⟨bs, 0, none⟩) n n) from fun wr hb => by rw [hn]; exact (h.later hb).c0)
  rw [← hn] at hlen
  clear h hn
  go_enter Try.func24, Try.ntmps24
  go_wp2_with fail
  go_loopw [3, 4] (fun vn vi wr => ∃ k : Nat, k ≤ n ∧ vn = .int .i64 ((m.take k).countP Sp.isFree : Nat) ∧ vi = .int .i64 k ∧ Below w.heap.size w wr) (fun _ vi _ => n - (intOf vi).toNat)
  case atStart => exact ⟨0, Nat.zero_le _, rfl, rfl, Below.refl _ _⟩
  case round =>
    obtain ⟨k, hk, rfl, rfl, hbr⟩ := hrel
    have c0 := HR.out wr hbr
    by_cases hlt : k < n
    · have hki : (k : Int) < n := by omega
      have hkm : k < m.length := by rw [← HN.out]; exact hlt
      have f1 := ((H.out.later hbr).s k hkm).1
      have HC := Lib.hid (cnt_snoc Sp.isFree m k hkm)
      have hle := cnt_le Sp.isFree m k
      rw [← HN.out] at hle
      have HFr : Hid (Sp.isFree m[k] = decide (m[k].1 = 0)) := Lib.hid (by unfold Sp.isFree; simp [BEq.beq])
      generalize m[k] = c at f1 HC HFr
      obtain ⟨s, b⟩ := c
      obtain ⟨t, ht⟩ : ∃ t, t = (m.take k).countP Sp.isFree := ⟨_, rfl⟩
      rw [← ht] at hle ⊢
      have HT := Lib.hid ht
      clear ht hkm
      simp only at f1 HFr
      by_cases hs : s = 0
      · subst hs
        go_wp2_with fail
        go_roundw
        case rel => exact ⟨k + 1, by omega, by rw [HC.out, HFr.out, ← HT.out]; simp, by go_num, hbr⟩
        case measure => simp [intOf]; omega
      · have hsi : ¬ (s : Int) = 0 := by omega
        go_wp2_with fail
        go_roundw
        case rel => exact ⟨k + 1, by omega, by rw [HC.out, HFr.out, ← HT.out]; simp [hs], by go_num, hbr⟩
        case measure => simp [intOf]; omega
    · have hki : ¬ (k : Int) < n := by omega
      have HE : Hid ((m.take k).countP Sp.isFree = Sp.free m) := Lib.hid (by rw [List.take_of_length_le (by rw [← HN.out]; omega)]; rfl)
      go_wp2_with fail
      go_ret
      exact ⟨by rw [HE.out]; rfl, hbr⟩
set_option maxHeartbeats 1600000 in
set_option maxRecDepth 100000 in
theorem rWaiting_w (w : World) (q bs bw : Nat) (m : Sp.M) (h : RD w q bs bw m) :
    Calls Try.prog 26 #[.pointer (some ⟨q, 0, none⟩)] w fun e w' => e = .returned (.int .i64 (Sp.waiting m)) ∧ Below w.heap.size w w' := by
  have H := Lib.hid h
  have hlen := h.len
  obtain ⟨n, hn⟩ : ∃ n, n = m.length := ⟨_, rfl⟩
  have HN := Lib.hid hn
  have HR := Lib.hid (show ∀ wr, Below w.heap.size w wr → wr.cell? ⟨q, 0, none⟩ = some (.slice (some ⟨bs, 0, none⟩) n n) ∧ wr.cell? ⟨q, 1, none⟩ = some (.slice (some ⟨bw, 0, none⟩) n n) from fun wr hb => by rw [hn]; exact ⟨(h.later hb).c0, (h.later hb).c1⟩)
  rw [← hn] at hlen
  clear h hn
  go_enter Try.func26, Try.ntmps26
  go_wp2_with fail
  go_loopw [3, 4] (fun vn vi wr => ∃ k : Nat, k ≤ n ∧ vn = .int .i64 ((m.take k).countP (fun c => c.2) : Nat) ∧ vi = .int .i64 k ∧ Below w.heap.size w wr) (fun _ vi _ => n - (intOf vi).toNat)
  case atStart => exact ⟨0, Nat.zero_le _, rfl, rfl, Below.refl _ _⟩
  case round =>
    obtain ⟨k, hk, rfl, rfl, hbr⟩ := hrel
    obtain ⟨c0, c1⟩ := HR.out wr hbr
    by_cases hlt : k < n
    · have hki : (k : Int) < n := by omega
      have hkm : k < m.length := by rw [← HN.out]; exact hlt
      have f1 := ((H.out.later hbr).t k hkm).1
      have HC := Lib.hid (cnt_snoc (fun c => c.2) m k hkm)
      have hle := cnt_le (fun c => c.2) m k
      rw [← HN.out] at hle
      generalize m[k] = c at f1 HC
      obtain ⟨s, b⟩ := c
      obtain ⟨t, ht⟩ : ∃ t, t = (m.take k).countP (fun c => c.2) := ⟨_, rfl⟩
      rw [← ht] at hle ⊢
      have HT := Lib.hid ht
      clear ht hkm
      simp only at f1
      cases b with
      | true =>
        go_wp2_with fail
        go_roundw
        case rel => exact ⟨k + 1, by omega, by rw [HC.out, ← HT.out]; simp, by go_num, hbr⟩
        case measure => simp [intOf]; omega
      | false =>
        go_wp2_with fail
        go_roundw
        case rel => exact ⟨k + 1, by omega, by rw [HC.out, ← HT.out]; simp, by go_num, hbr⟩
        case measure => simp [intOf]; omega
    · have hki : ¬ (k : Int) < n := by omega
      have HE : Hid ((m.take k).countP (fun c => c.2) = Sp.waiting m) := Lib.hid (by rw [List.take_of_length_le (by rw [← HN.out]; omega)]; rfl)
      go_wp2_with fail
      go_ret
      exact ⟨by rw [HE.out]; rfl, hbr⟩

/-- A turn of the sectors, one behind the other: behind k of them. -/
def upto (f : Sp.Cell → Sp.Cell) (m : Sp.M) (k : Nat) : Sp.M := (m.take k).map f ++ m.drop k
theorem upto_length (f : Sp.Cell → Sp.Cell) (m : Sp.M) (k : Nat) : (upto f m k).length = m.length := by unfold upto; rw [List.length_append, List.length_map, List.length_take, List.length_drop]; omega
theorem upto_at (f : Sp.Cell → Sp.Cell) (m : Sp.M) (k : Nat) (hk : k < m.length) : ∃ h : k < (upto f m k).length, (upto f m k)[k]'h = m[k] := by
  refine ⟨by rw [upto_length]; exact hk, ?_⟩
  unfold upto
  rw [List.getElem_append_right (by rw [List.length_map, List.length_take]; omega)]
  simp [Nat.min_eq_left (Nat.le_of_lt hk)]
theorem upto_set (f : Sp.Cell → Sp.Cell) (m : Sp.M) (k : Nat) (hk : k < m.length) : (upto f m k).set k (f m[k]) = upto f m (k + 1) := by
  unfold upto
  have hl : ((m.take k).map f).length = k := by rw [List.length_map, List.length_take]; omega
  rw [List.set_append_right _ _ (by omega), hl, Nat.sub_self, List.take_add_one, List.getElem?_eq_getElem hk, List.map_append, List.append_assoc, List.drop_eq_getElem_cons hk]
  rfl
theorem upto_zero (f : Sp.Cell → Sp.Cell) (m : Sp.M) : upto f m 0 = m := rfl
theorem upto_all (f : Sp.Cell → Sp.Cell) (m : Sp.M) (k : Nat) (hk : k = m.length) : upto f m k = m.map f := by unfold upto; subst hk; rw [List.take_length, List.drop_length, List.append_nil]
theorem set_set (m : Sp.M) (k : Nat) (a b : Sp.Cell) : (m.set k a).set k b = m.set k b := List.set_set ..
end Go.Proofs.Ytgfgafondiipoaa
