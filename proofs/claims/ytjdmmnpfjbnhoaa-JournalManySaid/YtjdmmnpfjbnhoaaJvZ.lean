/- Package journal, the program: puts' rows by their shape alone, and a map of puts. -/
import Derived.Test.YtjdmmnpfjbnhoaaJvT
import Derived.Maps.Own
namespace Go.Proofs.Ytjdmmnpfjbnhoaa
open Go.RowKit

/-- A put by its shape. -/
def PutV (v : Value) : Prop := ∃ (x : Nat) (a : Option Addr) (l c : Nat), v = .agg #[.int .i64 (x : Int), .slice a l c] ∧ x ≤ 1000000
open Classical in
noncomputable def putElem (v : Value) : Option (DataW Unit × List MemPlace) := if PutV v then some (.lit (.int .i64 0), []) else none
theorem putElem_mk {x : Nat} {a : Option Addr} {l c : Nat} (hx : x ≤ 1000000) : putElem (.agg #[.int .i64 (x : Int), .slice a l c]) = some (.lit (.int .i64 0), []) := if_pos ⟨x, a, l, c, rfl, hx⟩
theorem putElem_inv {v : Value} {z : DataW Unit × List MemPlace} (h : putElem v = some z) : PutV v := by
  unfold putElem at h
  by_cases hp : PutV v
  · exact hp
  · rw [if_neg hp] at h; cases h
def MapOk (w : World) (b n : Nat) : Prop := ∃ D : DataW Unit, w.ownsMap Try.prog 3 putElem b n D
theorem MapOk.keep {w w' : World} {b n : Nat} (h : MapOk w b n) (hb : w'.heap[b]? = w.heap[b]?) : MapOk w' b n := by
  obtain ⟨D, es, clock, h1, h2⟩ := h
  exact ⟨D, es, clock, hb.trans h1, h2⟩
theorem MapOk.made (w : World) : MapOk (w.alloc (.map #[] 0)) w.heap.size 0 := ⟨_, World.ownsMap_made w _ _ _⟩
theorem intKeyed : Maps.Keyed Try.prog 3 := Maps.int_keyed Try.underlying3
theorem int_wf {x : Nat} (hx : x ≤ 1000000) : (Lit.int .i64 (x : Int)).wf = true := by
  have h1 : IntKind.i64.min = -9223372036854775808 := by decide
  have h2 : IntKind.i64.max = 9223372036854775807 := by decide
  simp only [Lit.wf, h1, h2, Bool.and_eq_true, decide_eq_true_eq]
  omega
set_option maxRecDepth 100000 in
theorem int_key {x : Nat} (hx : x ≤ 1000000) : keyOf Try.prog 3 (.int .i64 (x : Int)) = some (.int .i64 (x : Int)) := Maps.keyOf_int_mk Try.underlying3 (int_wf hx)
theorem zeroPut (w : World) : (zeroValue 37).run Try.prog w = .ok (.agg #[.int .i64 ((0 : Nat) : Int), .slice none 0 0]) w := by kernel_rfl
set_option maxRecDepth 100000 in
theorem MapOk.look {w : World} {b n x : Nat} (h : MapOk w b n) (hx : x ≤ 1000000) : ∃ (y : Nat) (a : Option Addr) (l c : Nat), y ≤ 1000000 ∧ (Instr.lookup 122 (.map (some b)) (.int .i64 (x : Int)) false).run Try.prog w = .ok (.agg #[.int .i64 (y : Int), .slice a l c]) w := by
  obtain ⟨D, h⟩ := h
  obtain ⟨v, ps, h1, h2⟩ := h.lookup intKeyed Try.underlying122 (zeroPut w) (putElem_mk (Nat.zero_le _)) (int_key hx)
  obtain ⟨y, a, l, c, rfl, hy⟩ := putElem_inv h2
  exact ⟨y, a, l, c, hy, h1⟩
/-- A row of puts by its shape. -/
def Sh (w : World) (b n : Nat) : Prop := ∃ C, w.heap[b]? = some (.cells C 37 (0, 0)) ∧ ∀ i, i < n → ∃ (x : Nat) (a : Option Addr) (l c : Nat), x ≤ 1000000 ∧ C[i * 2]? = some (.int .i64 (x : Int)) ∧ C[i * 2 + 1]? = some (.slice a l c)
theorem Sh.keep {w w' : World} {b n : Nat} (h : Sh w b n) (hb : w'.heap[b]? = w.heap[b]?) : Sh w' b n := by
  obtain ⟨C, h1, h2⟩ := h
  exact ⟨C, hb.trans h1, h2⟩
theorem Sh.lt {w : World} {b n : Nat} (h : Sh w b n) : b < w.heap.size := by
  obtain ⟨C, h1, _⟩ := h
  exact lt_of_block h1
theorem Sh.set {w : World} {b b' n i x l c : Nat} {a : Option Addr} (h : Sh w b n) (hx : x ≤ 1000000) : Sh ((w.setCell ⟨b', i * 2, none⟩ (.int .i64 (x : Int))).setCell ⟨b', i * 2 + 1, none⟩ (.slice a l c)) b n := by
  by_cases hb : b = b'
  · subst hb
    obtain ⟨C, h1, h2⟩ := h
    refine ⟨_, heap_setCell_same _ b _ _ _ _ (heap_setCell_same w b _ _ _ _ h1), fun j hj => ?_⟩
    obtain ⟨y, a', l', c', h3, h4, h5⟩ := h2 j hj
    have l4 := (Array.getElem?_eq_some_iff.1 h4).1
    have l5 := (Array.getElem?_eq_some_iff.1 h5).1
    by_cases hji : j = i
    · subst hji
      refine ⟨x, a, l, c, hx, ?_, ?_⟩
      · rw [Array.getElem?_setIfInBounds_ne (by omega), Array.getElem?_setIfInBounds_self_of_lt l4]
      · rw [Array.getElem?_setIfInBounds_self_of_lt (by simpa using l5)]
    · refine ⟨y, a', l', c', h3, ?_, ?_⟩
      · rw [Array.getElem?_setIfInBounds_ne (by omega), Array.getElem?_setIfInBounds_ne (by omega)]; exact h4
      · rw [Array.getElem?_setIfInBounds_ne (by omega), Array.getElem?_setIfInBounds_ne (by omega)]; exact h5
  · exact h.keep (((heap_setCell_other _ ⟨b', i * 2 + 1, none⟩ b _ hb)).trans (heap_setCell_other w ⟨b', i * 2, none⟩ b _ hb))
theorem PRow.sh {G : Nat → Prop} {w : World} {a : Option Addr} {n cap : Nat} {puts : List Jr.Put} (h : PRow G w (.slice a n cap) puts) (hp : ∀ p ∈ puts, p.1 ≤ 1000000) (h0 : 0 < puts.length) : ∃ b, a = some ⟨b, 0, none⟩ ∧ G b ∧ Sh w b puts.length := by
  obtain ⟨b, u, rfl, hG, _⟩ := h.nth (List.getElem?_eq_getElem h0)
  obtain ⟨C, hC⟩ := h.type rfl
  refine ⟨b, rfl, hG, C, hC, fun i hi => ?_⟩
  obtain ⟨b', u, hb, _, f1, f2, hu⟩ := h.nth (List.getElem?_eq_getElem hi)
  cases hb
  obtain ⟨xb, xo, xc, XC, xf, rfl, _⟩ := hu
  refine ⟨puts[i].1, some ⟨xb, xo, none⟩, puts[i].2.length, xc, hp _ (List.getElem_mem hi), ?_, ?_⟩
  · simpa [World.cell?, hC] using f1
  · simpa [World.cell?, hC] using f2
/-- How far the levelling has come. -/
structure Lv (w : World) (G : Nat → Prop) (mb N : Nat) (wr : World) : Prop where
  map : MapOk wr mb N
  touch : Touch G w wr
  sh : ∀ b n, Sh w b n → Sh wr b n
  kn : ∀ (k : Nat) (C : Array Value) (T : TypeId) (f : Nat × Nat), w.heap[k]? = some (.cells C T f) → T ≠ 37 → wr.heap[k]? = w.heap[k]?
  new : w.heap.size ≤ mb
section
variable {w wr w' : World} {G : Nat → Prop} {mb N : Nat}
theorem Lv.cell (h : Lv w G mb N wr) {b c : Nat} {v : Value} {C : Array Value} {T : TypeId} {f : Nat × Nat} (hC : w.heap[b]? = some (.cells C T f)) (hT : T ≠ 37) (hv : w.cell? ⟨b, c, none⟩ = some v) : wr.cell? ⟨b, c, none⟩ = some v := by
  rw [← hv]
  exact World.cell?_of_block (a := ⟨b, c, none⟩) (h.kn b C T f hC hT)
theorem MapOk.lt (h : MapOk w mb N) : mb < w.heap.size := by
  obtain ⟨D, h⟩ := h
  exact h.lt
theorem Lv.later (h : Lv w G mb N wr) (hb : Below wr.heap.size wr w') : Lv w G mb N w' :=
  ⟨h.map.keep (hb.block mb h.map.lt), h.touch.trans (Touch.of hb), fun b n hs => (h.sh b n hs).keep (hb.block b (h.sh b n hs).lt), fun k C T f hk hT => (hb.block k (Nat.lt_of_lt_of_le (lt_of_block hk) h.touch.size)).trans (h.kn k C T f hk hT), h.new⟩
theorem Lv.start (h : w.heap.size ≤ mb) (hb : Below w.heap.size w wr) (hm : MapOk wr mb N) : Lv w G mb N wr :=
  ⟨hm, Touch.of hb, fun b n hs => hs.keep (hb.block b hs.lt), fun k C T f hk _ => hb.block k (lt_of_block hk), h⟩
theorem Lv.upd (h : Lv w G mb N wr) (hg : wr.grownBy w' (some mb)) {M : Nat} (hm : MapOk w' mb M) : Lv w G mb M w' := by
  have hne : ∀ k, k < w.heap.size → w'.heap[k]? = wr.heap[k]? := fun k hk => hg.block k (Nat.lt_of_lt_of_le hk h.touch.size) (fun e => by cases e; have := h.new; omega)
  exact ⟨hm, ⟨hg.os.trans h.touch.os, hg.tape.trans h.touch.tape, hg.output.trans h.touch.output, Nat.le_trans h.touch.size hg.size, fun k hk hn => (hne k hk).trans (h.touch.block k hk hn)⟩, fun b n hs => (h.sh b n hs).keep (hne b hs.lt), fun k C T f hk hT => (hne k (lt_of_block hk)).trans (h.kn k C T f hk hT), h.new⟩
theorem Lv.set (h : Lv w G mb N wr) {b n i x l c : Nat} {a : Option Addr} (hG : G b) (hs : Sh w b n) (hx : x ≤ 1000000) : Lv w G mb N ((wr.setCell ⟨b, i * 2, none⟩ (.int .i64 (x : Int))).setCell ⟨b, i * 2 + 1, none⟩ (.slice a l c)) := by
  have hb := hs.lt
  have ho : ∀ k, k ≠ b → ((wr.setCell ⟨b, i * 2, none⟩ (.int .i64 (x : Int))).setCell ⟨b, i * 2 + 1, none⟩ (.slice a l c)).heap[k]? = wr.heap[k]? := fun k hk => (heap_setCell_other _ ⟨b, i * 2 + 1, none⟩ k _ hk).trans (heap_setCell_other wr ⟨b, i * 2, none⟩ k _ hk)
  refine ⟨h.map.keep (ho mb (by have := h.new; omega)), (h.touch.trans (Touch.cell hG _ _)).trans (Touch.cell hG _ _), fun b' n' hs' => (h.sh b' n' hs').set hx, fun k C T f hk hT => (ho k (fun e => ?_)).trans (h.kn k C T f hk hT), h.new⟩
  subst e
  obtain ⟨C', h1, _⟩ := hs
  exact ne_block hk h1 hT rfl
end
end Go.Proofs.Ytjdmmnpfjbnhoaa
namespace Go.Proofs.Ytjdmmnpfjbnhoaa
open Go.RowKit

set_option maxHeartbeats 12800000 in
set_option maxRecDepth 100000 in
theorem level_w (q g from_ n at_ : Nat) (m next : Int) (G : Nat → Prop) (rs : List Rec) (w : World) (hJ : JIn w q g G from_ n m next at_ rs) (hp : ∀ x ∈ rs, ∀ p ∈ x.2.2, p.1 ≤ 1000000) (hl : (rs.flatMap (·.2.2)).length ≤ 1000000) :
    Calls Try.prog 64 #[.pointer (some ⟨q, 0, none⟩)] w fun e w' => e = .returned (.tuple #[]) ∧ w'.heap[q]? = w.heap[q]? ∧ Touch G w w' := by
  obtain ⟨⟨ov, hq, hR⟩, hGq⟩ := hJ
  obtain ⟨oa, oc, rfl, hoc, hoc9, hob⟩ := hR.shape
  obtain ⟨L, hL⟩ : ∃ L, L = rs.length := ⟨_, rfl⟩
  rw [← hL] at hoc hq hR
  have hb1 : Below w.heap.size w (w.alloc (.map #[] 0)) := (Below.refl _ w).alloc (Nat.le_refl _) _
  have hm1 := MapOk.made w
  have HJ := Lib.hid (And.intro hq (And.intro hGq hR))
  have HP := Lib.hid (And.intro hp (And.intro hob (And.intro hl hL)))
  have hli : (L : Int) ≤ 9223372036854775807 := by omega
  clear hR hGq hp hob hl hL
  have hmm := @run_makeMap Try.prog
  go_enter Try.func64, Try.ntmps64
  go_upto_region 1 with fail
  obtain ⟨mb, hmb⟩ : ∃ b, b = w.heap.size := ⟨_, rfl⟩
  rw [← hmb] at hm1 ⊢
  generalize w.alloc _ = w1 at *
  have c6 := (blk_cell ((hb1.block q (lt_of_block hq)).trans hq) 6 _ rfl).1
  simp only [List.getElem_toArray, List.getElem_cons_zero, List.getElem_cons_succ] at c6
  have HS0 := Lib.hid (Lv.start (G := G) (by rw [hmb]; exact Nat.le_refl _) hb1 hm1)
  clear hq hb1 hm1 hmb hmm
  go_wp2_with fail
  go_loopw [17] (fun i wr => ∃ k : Nat, k ≤ L ∧ i = .int .i64 k ∧ Lv w G mb ((rs.take k).flatMap (·.2.2)).length wr) (fun i _ => L - (intOf i).toNat)
  case atStart => exact ⟨0, Nat.zero_le _, rfl, HS0.out⟩
  case round =>
    obtain ⟨k, hk, rfl, hS⟩ := hrel
    clear HS0 c6
    by_cases hlt : k < L
    · have hki : (k : Int) < L := by omega
      have hkl : k < rs.length := by rw [← HP.out.2.2.2]; exact hlt
      obtain ⟨b, hoa⟩ := HP.out.2.1 (fun e => by rw [e] at hkl; cases hkl)
      subst hoa
      obtain ⟨pv, r0, r1, r2, hPR⟩ := HJ.out.2.2.nth (List.getElem?_eq_getElem hkl)
      obtain ⟨CR, hCR⟩ := HJ.out.2.2.type rfl
      obtain ⟨X, hX⟩ : ∃ X, X = rs[k] := ⟨_, rfl⟩
      have hpX := HP.out.1 _ (List.getElem_mem hkl)
      have hTK : (rs.take (k + 1)).flatMap (·.2.2) = (rs.take k).flatMap (·.2.2) ++ rs[k].2.2 := by
        rw [List.take_add_one, List.getElem?_eq_getElem hkl, List.flatMap_append]; simp
      have hLE : ((rs.take k).flatMap (·.2.2)).length + rs[k].2.2.length ≤ (rs.flatMap (·.2.2)).length := by
        rw [← List.length_append, ← hTK]
        conv => rhs; rw [← List.take_append_drop (k + 1) rs, List.flatMap_append, List.length_append]
        omega
      rw [← hX] at r0 r1 hPR hpX hTK hLE
      clear hX
      obtain ⟨N, Y, ps⟩ := X
      simp only at r0 r1 hPR hpX hTK hLE
      have r0 := hS.cell hCR (by decide) r0
      have r1 := hS.cell hCR (by decide) r1
      have r2 := hS.cell hCR (by decide) r2
      obtain ⟨pa, pc, rfl, hpc, hpc9⟩ := hPR.shape
      obtain ⟨M, hM⟩ : ∃ M, M = ps.length := ⟨_, rfl⟩
      rw [← hM] at r2 hPR hpc
      have hSH : 0 < M → ∃ b, pa = some ⟨b, 0, none⟩ ∧ G b ∧ Sh w b M := fun h0 => by
        have := hPR.sh hpX (by rw [← hM]; exact h0)
        rw [← hM] at this
        exact this
      have HSH := Lib.hid hSH
      obtain ⟨DK, hDK⟩ : ∃ DK, DK = ((rs.take k).flatMap (·.2.2)).length := ⟨_, rfl⟩
      have hTK2 : ((rs.take (k + 1)).flatMap (·.2.2)).length = DK + M := by rw [hTK, List.length_append, ← hDK, hM]
      rw [← hDK] at hS hLE
      have HK := Lib.hid (And.intro hTK2 (show DK + M ≤ 1000000 by rw [hM]; exact Nat.le_trans hLE HP.out.2.2.1))
      have hnr := heap_alloc_new wr (.cells #[.int .i64 N, .int .i64 (Y : Int), .slice pa M pc] 77)
      have hba : Below wr.heap.size wr (wr.alloc (.cells #[.int .i64 N, .int .i64 (Y : Int), .slice pa M pc] 77)) := (Below.refl _ wr).alloc (Nat.le_refl _) _
      have hsz := hS.touch.size
      have hS := hS.later hba
      have HS := Lib.hid hS
      clear hS hTK hLE hTK2 hpX hM hPR hDK hkl hCR hSH hsz
      go_upto_region 4 with fail
      have c2 := (blk_cell hnr 2 (.slice pa M pc) rfl).1
      generalize wr.alloc _ = w3 at *
      clear r0 r1 r2 hba
      go_wp2_with fail
      have hMi : (M : Int) ≤ 9223372036854775807 := by omega
      go_loopw [24] (fun i wr => ∃ j : Nat, j ≤ M ∧ i = .int .i64 j ∧ Lv w G mb (DK + j) wr) (fun i _ => M - (intOf i).toNat)
      case atStart => exact ⟨0, Nat.zero_le _, rfl, HS.out⟩
      case round =>
        obtain ⟨j, hj, rfl, hS⟩ := hrel
        clear HS c2 hnr
        by_cases hjt : j < M
        · have hji : (j : Int) < M := by omega
          obtain ⟨pb, rfl, hGpb, hsh⟩ := HSH.out (by omega)
          obtain ⟨C, h1, h2⟩ := hS.sh _ _ hsh
          obtain ⟨x, xa, xl, xc, hx, f1, f2⟩ := h2 j hjt
          have f1 := (blk_cell h1 _ _ f1).1
          have f2 := (blk_cell h1 _ _ f2).1
          have hnp := heap_alloc_new wr (.cells #[.int .i64 (x : Int), .slice xa xl xc] 37)
          have hbp : Below wr.heap.size wr (wr.alloc (.cells #[.int .i64 (x : Int), .slice xa xl xc] 37)) := (Below.refl _ wr).alloc (Nat.le_refl _) _
          have hS4 := hS.later hbp
          clear hS h1 h2 hsh
          go_upto_region 7 with fail
          generalize wr.alloc _ = w4 at hnp hbp hS4 ⊢
          have g1 := (blk_cell hnp 0 (.int .i64 (x : Int)) rfl).1
          have g2 := (blk_cell hnp 1 (.slice xa xl xc) rfl).1
          obtain ⟨D, hown⟩ := hS4.map
          have HS4 := Lib.hid (And.intro hS4 hown)
          have HNB := Lib.hid (show DK + j < maxLen by have := HK.out.2; unfold maxLen; omega)
          clear hnp hbp hS4 hown f1 f2
          go_wp2_with (first | (at_mapUpdate; refine wpList_mapUpdate_own _ rfl _ _ _ 122 rfl 3 37 intKeyed Try.underlying122 putElem mb (DK + j) D rfl HS4.out.2 HNB.out _ _ (.int .i64 (x : Int)) rfl rfl (int_key hx) (.lit (.int .i64 0)) [] (putElem_mk hx) ?_) | fail)
          intro w7 hown7 hg7
          have HS7 := Lib.hid (HS4.out.1.upd hg7 ⟨_, hown7⟩)
          clear hown7 hg7 g1 g2
          go_wp2_with fail
          go_roundw
          case rel => exact ⟨j + 1, by omega, by go_num, HS7.out⟩
          case measure => simp [intOf]; omega
        · have hji : ¬ (j : Int) < M := by omega
          obtain rfl : j = M := by omega
          have HY : Hid (Lv w G mb ((rs.take (k + 1)).flatMap (·.2.2)).length wr) := Lib.hid (by rw [HK.out.1]; exact hS)
          clear hS hj hjt
          go_wp2_with fail
          go_roundw
          case rel => exact ⟨k + 1, by omega, by go_num, HY.out⟩
          case measure => simp [intOf]; omega
    · have hki : ¬ (k : Int) < L := by omega
      obtain rfl : L = k := by omega
      rw [HP.out.2.2.2, List.take_length] at hS
      obtain ⟨T, hT⟩ : ∃ T, T = (rs.flatMap (·.2.2)).length := ⟨_, rfl⟩
      rw [← hT] at hS
      have HS0 := Lib.hid hS
      have c6 := hS.cell HJ.out.1 (by decide) (blk_cell HJ.out.1 6 _ rfl).1
      simp only [List.getElem_toArray, List.getElem_cons_zero, List.getElem_cons_succ] at c6
      clear hS hk hlt hT
      go_wp2_with fail
      go_loopw [39] (fun i wr => ∃ k : Nat, k ≤ L ∧ i = .int .i64 k ∧ Lv w G mb T wr) (fun i _ => L - (intOf i).toNat)
      case atStart => exact ⟨0, Nat.zero_le _, rfl, HS0.out⟩
      case round =>
        obtain ⟨k, hk, rfl, hS⟩ := hrel
        clear HS0 c6
        by_cases hlt : k < L
        · have hki : (k : Int) < L := by omega
          have hkl : k < rs.length := by rw [← HP.out.2.2.2]; exact hlt
          obtain ⟨b, hoa⟩ := HP.out.2.1 (fun e => by rw [e] at hkl; cases hkl)
          subst hoa
          obtain ⟨pv, r0, r1, r2, hPR⟩ := HJ.out.2.2.nth (List.getElem?_eq_getElem hkl)
          obtain ⟨CR, hCR⟩ := HJ.out.2.2.type rfl
          have hpX := HP.out.1 _ (List.getElem_mem hkl)
          generalize rs[k] = X at r0 r1 hPR hpX
          obtain ⟨N, Y, ps⟩ := X
          simp only at r0 r1 hPR hpX
          have r0 := hS.cell hCR (by decide) r0
          have r1 := hS.cell hCR (by decide) r1
          have r2 := hS.cell hCR (by decide) r2
          obtain ⟨pa, pc, rfl, hpc, hpc9⟩ := hPR.shape
          obtain ⟨M, hM⟩ : ∃ M, M = ps.length := ⟨_, rfl⟩
          rw [← hM] at r2 hPR hpc
          have hSH : 0 < M → ∃ b, pa = some ⟨b, 0, none⟩ ∧ G b ∧ Sh w b M := fun h0 => by
            have := hPR.sh hpX (by rw [← hM]; exact h0)
            rw [← hM] at this
            exact this
          have HSH := Lib.hid hSH
          have hnr := heap_alloc_new wr (.cells #[.int .i64 N, .int .i64 (Y : Int), .slice pa M pc] 77)
          have hba : Below wr.heap.size wr (wr.alloc (.cells #[.int .i64 N, .int .i64 (Y : Int), .slice pa M pc] 77)) := (Below.refl _ wr).alloc (Nat.le_refl _) _
          have hsz := hS.touch.size
          have hS := hS.later hba
          clear hpX hM hPR hkl hCR hSH
          go_upto_region 13 with fail
          have c2 := (blk_cell hnr 2 (.slice pa M pc) rfl).1
          obtain ⟨r8, hr8⟩ : ∃ r, r = wr.heap.size := ⟨_, rfl⟩
          have hr8w : w.heap.size ≤ r8 := by rw [hr8]; exact hsz
          rw [← hr8] at hnr c2 ⊢
          generalize wr.alloc _ = w3 at *
          have HS := Lib.hid (And.intro hS hnr)
          clear r0 r1 r2 hba hS hsz hnr hr8
          go_wp2_with fail
          have hMi : (M : Int) ≤ 9223372036854775807 := by omega
          go_loopw [46] (fun i wr => ∃ j : Nat, j ≤ M ∧ i = .int .i64 j ∧ Lv w G mb T wr ∧ wr.heap[r8]? = some (.cells #[.int .i64 N, .int .i64 (Y : Int), .slice pa M pc] 77 (0, 0))) (fun i _ => M - (intOf i).toNat)
          case atStart => exact ⟨0, Nat.zero_le _, rfl, HS.out⟩
          case round =>
            obtain ⟨j, hj, rfl, hS, h8⟩ := hrel
            clear HS c2
            by_cases hjt : j < M
            · have hji : (j : Int) < M := by omega
              obtain ⟨pb, rfl, hGpb, hsh⟩ := HSH.out (by omega)
              obtain ⟨C, h1, h2⟩ := hS.sh _ _ hsh
              obtain ⟨x, xa, xl, xc, hx, f1, f2⟩ := h2 j hjt
              have F1 := (blk_cell h1 _ _ f1).1
              have F2 := (blk_cell h1 _ _ f2).1
              have hnp := heap_alloc_new wr (.cells #[.int .i64 (x : Int), .slice xa xl xc] 37)
              have hbp : Below wr.heap.size wr (wr.alloc (.cells #[.int .i64 (x : Int), .slice xa xl xc] 37)) := (Below.refl _ wr).alloc (Nat.le_refl _) _
              have hS4 := hS.later hbp
              have h18 := (hbp.block pb (lt_of_block h1)).trans h1
              have h88 := (hbp.block r8 (lt_of_block h8)).trans h8
              clear hS h1 h2 h8
              go_upto_region 16 with fail
              generalize wr.alloc _ = w4 at hnp hbp hS4 h18 h88 ⊢
              clear F1 F2
              have g1 := (blk_cell hnp 0 (.int .i64 (x : Int)) rfl).1
              have c82 := (blk_cell h88 2 (.slice (some ⟨pb, 0, none⟩) M pc) rfl).1
              have d1 := blk_cell h18 _ _ f1
              have d2 := blk_cell h18 _ _ f2
              obtain ⟨y, ya, yl, yc, hy, hrun⟩ := hS4.map.look hx
              have hpr8 : r8 ≠ pb := fun e => by have := hsh.lt; omega
              have HS7 := Lib.hid (And.intro (hS4.set (i := j) (a := ya) (l := yl) (c := yc) hGpb hsh hy) (((heap_setCell_other _ ⟨pb, j * 2 + 1, none⟩ r8 (.slice ya yl yc) hpr8).trans (heap_setCell_other w4 ⟨pb, j * 2, none⟩ r8 (.int .i64 (y : Int)) hpr8)).trans h88))
              clear hnp hbp hS4 h18 h88 f1 f2 hsh
              go_wp2_with fail
              go_roundw
              case rel => exact ⟨j + 1, by omega, by go_num, HS7.out⟩
              case measure => simp [intOf]; omega
            · have hji : ¬ (j : Int) < M := by omega
              have HY := Lib.hid hS
              clear hS hj hjt h8
              go_wp2_with fail
              go_roundw
              case rel => exact ⟨k + 1, by omega, by go_num, HY.out⟩
              case measure => simp [intOf]; omega
        · have hki : ¬ (k : Int) < L := by omega
          have HY := Lib.hid hS
          clear hS hk hlt
          go_wp2_with fail
          go_end0
          exact ⟨rfl, HY.out.kn q _ _ _ HJ.out.1 (by decide), HY.out.touch⟩
end Go.Proofs.Ytjdmmnpfjbnhoaa
namespace Go.Proofs.Ytjdmmnpfjbnhoaa
open Go.RowKit

set_option maxHeartbeats 1600000 in
set_option maxRecDepth 100000 in
theorem forget2_w (q g from_ n at_ : Nat) (m next : Int) (G : Nat → Prop) (a : Option Addr) (l c : Nat) (w : World) (hq : w.heap[q]? = some (.cells #[.pointer (some ⟨g, 0, none⟩), .int .i64 (from_ : Int), .int .i64 (n : Int), .int .i64 m, .int .i64 next, .int .i64 (at_ : Int), .slice a l c] 69 (0, 0))) (hGq : G q) :
    Calls Try.prog 51 #[.pointer (some ⟨q, 0, none⟩)] w fun e w' => e = .returned (.int .i64 0) ∧ JIn w' q g G from_ n m next at_ [] ∧ Touch G w w' := by
  have c6 := blk_cell hq 6 _ rfl
  simp only [List.getElem_toArray, List.getElem_cons_zero, List.getElem_cons_succ] at c6
  have hq8 := heap_setCell_same w q 6 _ _ (.slice none 0 0) hq
  have HX := Lib.hid (And.intro hq8 (And.intro hGq (Touch.cell (w := w) hGq 6 (.slice none 0 0))))
  clear hq hq8 hGq
  go_enter Try.func51, Try.ntmps51
  go_wp2_with fail
  go_ret
  exact ⟨rfl, ⟨⟨_, HX.out.1, Recs.nil G _⟩, HX.out.2.1⟩, HX.out.2.2⟩
theorem set_mark {w : World} {q : Nat} {x0 x1 x2 x3 x4 x5 x6 : Value} {T : TypeId} (h : w.heap[q]? = some (.cells #[x0, x1, x2, x3, x4, x5, x6] T (0, 0))) (a b c : Value) :
    (((w.setCell ⟨q, 3, none⟩ a).setCell ⟨q, 4, none⟩ b).setCell ⟨q, 5, none⟩ c).heap[q]? = some (.cells #[x0, x1, x2, a, b, c, x6] T (0, 0)) ∧ Touch (fun k => k = q) w (((w.setCell ⟨q, 3, none⟩ a).setCell ⟨q, 4, none⟩ b).setCell ⟨q, 5, none⟩ c) :=
  ⟨heap_setCell_same _ q 5 _ _ c (heap_setCell_same _ q 4 _ _ b (heap_setCell_same w q 3 _ _ a h)), ((Touch.cell (F := fun k => k = q) (w := w) (g := q) rfl 3 a).trans (Touch.cell (F := fun k => k = q) (g := q) rfl 4 b)).trans (Touch.cell (F := fun k => k = q) (g := q) rfl 5 c)⟩
set_option maxHeartbeats 12800000 in
set_option maxRecDepth 100000 in
theorem step_w (q g from_ n at_ mm nx : Nat) (G : Nat → Prop) (rs : List Rec) (d d' : Dv.S) (F : Nat → Prop) (w : World) (hJ : JIn w q g G from_ n (mm : Int) (nx : Int) at_ rs) (hD : Dev13 w g d F) (hGF : ∀ k, G k → ¬ F k) (hGl : ∀ k, G k → k < w.heap.size) (hn : d.n ≤ 1000000) (hw : d.wait.length ≤ 100000) (hd : Dv.write d ((from_ : Int) + (((mm + 1) % 2 : Nat) : Int)) [Jr.mark ((mm + 1 : Nat) : Int) (nx : Int) at_] = (d', 0)) (hf : from_ + 2 ≤ 1000000) (hm : mm ≤ 1000000) (hx : nx ≤ 10000000) (ha : at_ ≤ 10000000) (hp : ∀ x ∈ rs, ∀ p ∈ x.2.2, p.1 ≤ 1000000) (hl : (rs.flatMap (·.2.2)).length ≤ 1000000) :
    Calls Try.prog 50 #[.pointer (some ⟨q, 0, none⟩)] w fun e w' => e = .returned (.int .i64 0) ∧ (∃ F', Dev13 w' g d' F' ∧ More F F' w) ∧ Touch (fun k => F k ∨ G k) w w' ∧
      ∃ a l c, w'.heap[q]? = some (.cells #[.pointer (some ⟨g, 0, none⟩), .int .i64 (from_ : Int), .int .i64 (n : Int), .int .i64 ((mm + 1 : Nat) : Int), .int .i64 (nx : Int), .int .i64 (at_ : Int), .slice a l c] 69 (0, 0)) := by
  obtain ⟨⟨ov, hq, hR⟩, hGq⟩ := id hJ
  obtain ⟨oa, oc, rfl, -⟩ := hR.shape
  have hmi : (mm : Int) ≤ 1000000 := by omega
  have hmi0 : (0 : Int) ≤ (mm : Int) := by omega
  have hnr := heap_alloc_new w (.cells #[.int .i64 (mm : Int), .int .i64 (nx : Int), .int .i64 (at_ : Int)] 63)
  have hba : Below w.heap.size w (w.alloc (.cells #[.int .i64 (mm : Int), .int .i64 (nx : Int), .int .i64 (at_ : Int)] 63)) := (Below.refl _ w).alloc (Nat.le_refl _) _
  have c3 := (blk_cell hq 3 (.int .i64 (mm : Int)) rfl).1
  have c4 := (blk_cell hq 4 (.int .i64 (nx : Int)) rfl).1
  have c5 := (blk_cell hq 5 (.int .i64 (at_ : Int)) rfl).1
  have HJ := Lib.hid (And.intro hJ (And.intro hD (And.intro hGF (And.intro hGl hGq))))
  have HQ := Lib.hid hq
  have CS := Lib.hid (fun W F' (h : Dev13 W g d F') => sign_w g from_ n (mm + 1) nx at_ d F' W h hn hw hf (by omega) (by omega) (by omega))
  have HD := Lib.hid hd
  have HP := Lib.hid (And.intro hp hl)
  clear hJ hq hR hGq hD hGF hGl hn hw hd hf hm hx ha hp hl
  go_enter Try.func50, Try.ntmps50
  go_upto_region 2 with fail
  obtain ⟨r3, hr3⟩ : ∃ r, r = w.heap.size := ⟨_, rfl⟩
  rw [← hr3] at hnr ⊢
  generalize w.alloc _ = w1 at hnr hba ⊢
  have d0 := blk_cell hnr 0 (.int .i64 (mm : Int)) rfl
  have hn2 := heap_setCell_same w1 r3 0 _ _ (.int .i64 ((mm : Int) + 1)) hnr
  have hb2 := set_below (k := 0) (v := .int .i64 ((mm : Int) + 1)) hba (show w.heap.size ≤ r3 by rw [hr3]; exact Nat.le_refl _)
  have HR3 := Lib.hid hr3
  clear c3 c4 c5 hr3
  go_upto_region 3 with fail
  generalize w1.setCell _ _ = w2 at hn2 hb2 ⊢
  have HN := Lib.hid hn2
  have HB := Lib.hid hb2
  have hq2 := (hb2.block q (lt_of_block HQ.out)).trans HQ.out
  have HQ2 := Lib.hid hq2
  clear d0 hn2 hb2 hnr hba hq2
  refine Rel.region_tail 5 (by kernel_rfl) [some 13, some 14, some 15, some 16, some 17, some 18, some 4] (by kernel_rfl) (by kernel_rfl) (by kernel_rfl) [.eq (.pointer (some ⟨q, 0, none⟩)), .eq (.pointer (some ⟨q, 0, none⟩)), .eq (.pointer (some ⟨q, 0, none⟩)), .eq (.agg #[.pointer (some ⟨g, 0, none⟩), .int .i64 (from_ : Int), .int .i64 (n : Int)]), .eq (.agg #[.int .i64 ((mm : Int) + 1), .int .i64 (nx : Int), .int .i64 (at_ : Int)])] ⟨?_, ?_, ?_, ?_, ?_, trivial⟩ ?_
  · intro u w9 hb9 hd9
    clear hd9
    refine ⟨?_⟩
    simp only [Rel.canD, List.take_zero]
    go_wp2_with fail
    exact ⟨rfl, rfl, Below.refl _ _, rfl⟩
  · intro u w9 hb9 hd9
    have e0 : u 0 = .pointer (some ⟨q, 0, none⟩) := hd9 0 (by kernel_rfl)
    clear hd9
    refine ⟨?_⟩
    simp only [Rel.canD, List.take_succ_cons, List.take_zero, Nat.reduceAdd]
    go_wp2_with fail
    exact ⟨rfl, rfl, Below.refl _ _, rfl⟩
  · intro u w9 hb9 hd9
    have e1 : u 1 = .pointer (some ⟨q, 0, none⟩) := hd9 1 (by kernel_rfl)
    clear hd9
    refine ⟨?_⟩
    simp only [Rel.canD, List.take_succ_cons, List.take_zero, Nat.reduceAdd]
    go_wp2_with fail
    exact ⟨rfl, rfl, Below.refl _ _, rfl⟩
  · intro u w9 hb9 hd9
    have e2 : u 2 = .pointer (some ⟨q, 0, none⟩) := hd9 2 (by kernel_rfl)
    clear hd9
    have q9 := (hb9.block q (lt_of_block HQ2.out)).trans HQ2.out
    have c90 := (blk_cell q9 0 _ rfl).1
    have c91 := (blk_cell q9 1 _ rfl).1
    have c92 := (blk_cell q9 2 _ rfl).1
    clear q9
    simp only [List.getElem_toArray, List.getElem_cons_zero, List.getElem_cons_succ] at c90 c91 c92
    refine ⟨?_⟩
    simp only [Rel.canD, List.take_succ_cons, List.take_zero, Nat.reduceAdd]
    go_wp2_with fail
    exact ⟨rfl, rfl, Below.refl _ _, rfl⟩
  · intro u w9 hb9 hd9
    clear hd9
    have q9 := (hb9.block r3 (lt_of_block HN.out)).trans HN.out
    have c90 := (blk_cell q9 0 _ rfl).1
    have c91 := (blk_cell q9 1 _ rfl).1
    have c92 := (blk_cell q9 2 _ rfl).1
    clear q9
    simp only [List.getElem_toArray, List.getElem_cons_zero, List.getElem_cons_succ, List.setIfInBounds_toArray, List.set_cons_zero] at c90 c91 c92
    refine ⟨?_⟩
    simp only [Rel.canD, List.take_succ_cons, List.take_zero, Nat.reduceAdd]
    go_wp2_with fail
    exact ⟨rfl, rfl, Below.refl _ _, rfl⟩
  intro u w9 hb9 hR9
  simp only [Rel.canD, Nat.reduceAdd, List.take_succ_cons, List.take_zero, List.drop_succ_cons, List.drop_zero]
  have h3 : u 3 = .agg #[.pointer (some ⟨g, 0, none⟩), .int .i64 (from_ : Int), .int .i64 (n : Int)] := hR9 3 (by decide)
  have h4 : u 4 = .agg #[.int .i64 ((mm : Int) + 1), .int .i64 (nx : Int), .int .i64 (at_ : Int)] := hR9 4 (by decide)
  rw [h3, h4]
  have hr9 := (hb9.block r3 (lt_of_block HN.out)).trans HN.out
  simp only [List.setIfInBounds_toArray, List.set_cons_zero] at hr9
  have hb9 := bt5 HB.out hb9
  have cS := CS.out w9 F (HJ.out.2.1.later hb9)
  rw [HD.out] at cS
  have HB9 := Lib.hid (And.intro hb9 (And.intro ((hb9.block q (lt_of_block HQ.out)).trans HQ.out) hr9))
  clear hR9 hb9 hr9 h3 h4
  go_wp2_with fail
  refine cS.mono ?_
  rintro e w4 ⟨F', rfl, hD4, ht4, hm4⟩
  have hq4 := (ht4.block q (lt_of_block HB9.out.2.1) (HJ.out.2.2.1 q HJ.out.2.2.2.2)).trans HB9.out.2.1
  have hJ4 : JIn w4 q g G from_ n (mm : Int) (nx : Int) at_ rs := HJ.out.1.keep (fun _ h => h) (fun k hk hl => (ht4.block k (Nat.lt_of_lt_of_le hl HB9.out.1.size) (HJ.out.2.2.1 k hk)).trans (HB9.out.1.block k hl))
  have hr4 := (ht4.block r3 (lt_of_block HB9.out.2.2) (fun hf => by have := HJ.out.2.1.lt r3 hf; have := HR3.out; omega)).trans HB9.out.2.2
  have hwt : Touch (fun k => F k ∨ G k) w w4 := (Touch.of HB9.out.1).trans (ht4.mono (fun k _ h => .inl h))
  obtain ⟨hq5, ht5⟩ := set_mark hq4 (.int .i64 ((mm : Int) + 1)) (.int .i64 (nx : Int)) (.int .i64 (at_ : Int))
  have e3 := blk_cell hq4 3 (.int .i64 (mm : Int)) rfl
  have e4 := blk_cell hq4 4 (.int .i64 (nx : Int)) rfl
  have e5 := blk_cell hq4 5 (.int .i64 (at_ : Int)) rfl
  have f0 := (blk_cell hr4 0 (.int .i64 ((mm : Int) + 1)) rfl).1
  have f1 := (blk_cell hr4 1 (.int .i64 (nx : Int)) rfl).1
  have f2 := (blk_cell hr4 2 (.int .i64 (at_ : Int)) rfl).1
  have hJ5 : JIn (((w4.setCell ⟨q, 3, none⟩ (.int .i64 ((mm : Int) + 1))).setCell ⟨q, 4, none⟩ (.int .i64 (nx : Int))).setCell ⟨q, 5, none⟩ (.int .i64 (at_ : Int))) q g G from_ n ((mm : Int) + 1) (nx : Int) at_ rs := by
    obtain ⟨⟨ov4, hq4', hR4⟩, hG4⟩ := hJ4
    refine ⟨⟨_, hq5, ?_⟩, hG4⟩
    rw [hq4] at hq4'
    cases hq4'
    exact hR4.keepT (fun _ h => h) (fun k9 C T f _ hc hT => ht5.block k9 (lt_of_block hc) (fun e9 => by
      subst e9
      rw [hq4] at hc
      cases hc
      rcases hT with h | h | h <;> exact absurd h (by decide)))
  have cL := level_w q g from_ n at_ _ _ G rs _ hJ5 HP.out.1 HP.out.2
  have HX := Lib.hid (And.intro hq5 (hwt.trans (ht5.mono (fun k _ h => .inr (by rw [h]; exact HJ.out.2.2.2.2)))))
  have HX4 : Hid (More F F' w) := Lib.hid (fun k hk => (hm4 k hk).imp id (fun h => Nat.le_trans HB9.out.1.size h))
  have HD4 := Lib.hid (And.intro hD4 (And.intro (ht5.size) (fun k (hk : F' k) => ht5.block k (hD4.lt k hk) (fun e => by
    subst e
    rcases hm4 k hk with h | h
    · exact HJ.out.2.2.1 _ HJ.out.2.2.2.2 h
    · have := lt_of_block HB9.out.2.1; omega))))
  clear hq4 hJ4 hr4 hwt hq5 ht5 hJ5 ht4 hm4 hD4 cS
  go_wp2_with fail
  refine cL.mono ?_
  rintro e w6 ⟨rfl, hq6, ht6⟩
  clear e3 e4 e5 f0 f1 f2 cL
  have HY := Lib.hid (And.intro (hq6.trans HX.out.1) (HX.out.2.trans (ht6.mono (fun k _ h => .inr h))))
  have HZ : Hid (Dev13 w6 g d' F') := Lib.hid ((HD4.out.1.keep HD4.out.2.1 HD4.out.2.2).keep ht6.size (fun k hk => ht6.block k (Nat.lt_of_lt_of_le (HD4.out.1.lt k hk) HD4.out.2.1) (fun hg => (HX4.out k hk).elim (HJ.out.2.2.1 k hg) (fun h => by have := HJ.out.2.2.2.1 k hg; omega))))
  clear hq6 ht6
  go_wp2_with fail
  go_ret
  exact ⟨rfl, ⟨F', HZ.out, HX4.out⟩, HY.out.2, _, _, _, HY.out.1⟩
end Go.Proofs.Ytjdmmnpfjbnhoaa
namespace Go.Proofs.Ytjdmmnpfjbnhoaa
open Go.RowKit

theorem writes_cl {d : Dv.S} {s k q : Nat} {ps : List Jr.Put} (h : Cl d s k q) (hp : ∀ p ∈ ps, p.1 < s ∧ p.2.length = 64) : ∃ d', Jr.writes d ps = (d', 0) ∧ Cl d' s (k + ps.length) (q + ps.length) := by
  induction ps generalizing d k q with
  | nil => exact ⟨d, rfl, h⟩
  | cons p l ih =>
    have hp1 := hp p (List.mem_cons_self ..)
    obtain ⟨d2, e2, c2⟩ := h.write p.1 [p.2] (by rw [List.length_singleton]; omega) (fun x hx => by rw [List.mem_singleton.1 hx]; exact hp1.2)
    obtain ⟨d3, e3, c3⟩ := ih c2 (fun p hp9 => hp p (List.mem_cons_of_mem _ hp9))
    refine ⟨d3, ?_, ?_⟩
    · show Jr.seqE (Dv.write d p.1 [p.2]) (fun d => Jr.writes d l) = _
      rw [e2]
      unfold Jr.seqE
      simp only [if_true]
      exact e3
    · rw [List.length_cons, show k + (l.length + 1) = k + 1 + l.length by omega, show q + (l.length + 1) = q + 1 + l.length by omega]
      exact c3
theorem finish_steps {d : Dv.S} {j : Jr.J} {s k q mm nx : Nat} (h : Cl d s k q) (hm : j.mark = (mm : Int)) (hx : j.next = (nx : Int)) (hp : ∀ p ∈ j.owed, p.1 < s ∧ p.2.length = 64) (hf : j.from_ + 2 ≤ s) :
    ∃ d1 d2 d3 d4, Jr.writes d j.owed = (d1, 0) ∧ Dv.flush d1 = (d2, 0) ∧ Dv.write d2 ((j.from_ : Int) + (((mm + 1) % 2 : Nat) : Int)) [Jr.mark ((mm + 1 : Nat) : Int) (nx : Int) j.at_] = (d3, 0) ∧ Dv.flush d3 = (d4, 0) ∧ Jr.finish d j = (d4, 0) ∧
      Cl d1 s (k + j.owed.length) (q + j.owed.length) ∧ Cl d2 s (k + j.owed.length + 1) 0 ∧ Cl d3 s (k + j.owed.length + 1 + 1) 1 ∧ Cl d4 s (k + j.owed.length + 1 + 1 + 1) 0 := by
  obtain ⟨d1, e1, c1⟩ := writes_cl h hp
  obtain ⟨d2, e2, c2⟩ := c1.flush
  obtain ⟨d3, e3, c3⟩ := c2.write (j.from_ + (mm + 1) % 2) [Jr.mark ((mm + 1 : Nat) : Int) (nx : Int) j.at_] (by rw [List.length_singleton]; omega) mark_one
  obtain ⟨d4, e4, c4⟩ := c3.flush
  rw [show ((j.from_ + (mm + 1) % 2 : Nat) : Int) = (j.from_ : Int) + (((mm + 1) % 2 : Nat) : Int) by omega] at e3
  refine ⟨d1, d2, d3, d4, e1, e2, e3, e4, ?_, c1, c2, c3, c4⟩
  unfold Jr.finish Jr.seqE
  simp only [e1, e2, if_true]
  rw [hm, hx, show ((mm : Int) + 1) % 2 = (((mm + 1) % 2 : Nat) : Int) by omega, show ((mm : Int) + 1) = ((mm + 1 : Nat) : Int) by omega, e3]
  simp only [if_true, e4]
def QB (q g from_ n : Nat) (m next : Int) (at_ : Nat) (W : World) : Prop := ∃ a l c, W.heap[q]? = some (.cells #[.pointer (some ⟨g, 0, none⟩), .int .i64 (from_ : Int), .int .i64 (n : Int), .int .i64 m, .int .i64 next, .int .i64 (at_ : Int), .slice a l c] 69 (0, 0))
def DG (w : World) (F G : Nat → Prop) (g : Nat) (d : Dv.S) (W : World) : Prop := (∃ F', Dev13 W g d F' ∧ More F F' w) ∧ Touch (fun k => F k ∨ G k) w W
theorem More.or {F F' G : Nat → Prop} {w : World} (h : More F F' w) : More (fun k => F k ∨ G k) (fun k => F' k ∨ G k) w := fun k hk => hk.elim (fun h9 => (h k h9).imp .inl id) (fun h9 => .inl (.inr h9))
theorem More.off {F F' G : Nat → Prop} {w : World} (h : More F F' w) (hGF : ∀ k, G k → ¬ F k) (hGl : ∀ k, G k → k < w.heap.size) : ∀ k, G k → ¬ F' k := fun k hg hf => (h k hf).elim (hGF k hg) (fun h => by have := hGl k hg; omega)
section
variable {w W w' : World} {F G : Nat → Prop} {g q : Nat} {d : Dv.S}
theorem St.dg (h : St w F g d W) : DG w F G g d W := by
  obtain ⟨F', hD, ht, hm⟩ := h
  exact ⟨⟨F', hD, hm⟩, ht.mono (fun k _ h => .inl h)⟩
theorem DG.flush (h : DG w F G g d W) (hGF : ∀ k, G k → ¬ F k) (hGl : ∀ k, G k → k < w.heap.size) (hn : d.n ≤ 1000000) (hw : d.wait.length ≤ 100000) :
    Calls Try.prog 21 #[.pointer (some ⟨g, 0, none⟩)] W fun e w' => e = .returned (.int .i64 (Dv.flush d).2) ∧ DG w F G g (Dv.flush d).1 w' ∧ ∀ k, G k → w'.heap[k]? = W.heap[k]? := by
  obtain ⟨⟨F', hD, hm⟩, ht⟩ := h
  exact (flush_w g d F' W hD hn hw).mono fun e w' ⟨F'', he, hD', ht', hm'⟩ => ⟨he, ⟨⟨F'', hD', hm.chain hm' ht.size⟩, ht.chain (F' := fun k => F' k ∨ G k) (ht'.mono (fun k _ h => .inl h)) hm.or⟩, fun k hk => ht'.block k (Nat.lt_of_lt_of_le (hGl k hk) ht.size) (hm.off hGF hGl k hk)⟩
end
theorem redo_steps (g q b mm nx s k0 q0 : Nat) (j : Jr.J) (rs : List Rec) (d : Dv.S) (F G : Nat → Prop) (w : World) (hJ : JIn w q g G j.from_ j.n (mm : Int) (nx : Int) j.at_ rs) (ho : rs.flatMap (·.2.2) = j.owed) (hD : Dev13 w g d F) (hGF : ∀ k, G k → ¬ F k) (hGl : ∀ k, G k → k < w.heap.size) (hc : Cl d s k0 q0) (hs : s ≤ 65536) (hk : k0 + j.owed.length + 10 ≤ 1000000) (hq : q0 + j.owed.length + 10 ≤ 100000) (hm : j.mark = (mm : Int)) (hx : j.next = (nx : Int)) (hp : ∀ p ∈ j.owed, p.1 < s ∧ p.2.length = 64) (hf : j.from_ + 2 ≤ s) (hmm : mm ≤ 1000000) (hnx : nx ≤ 10000000) (ha : j.at_ ≤ 10000000)
    (hbF : ¬ F b) (hbG : ¬ G b) (hb : w.heap[b]? = some (.cells #[.func (.func 49) #[.pointer (some ⟨q, 0, none⟩)] #[], .func (.func 21) #[.pointer (some ⟨g, 0, none⟩)] #[], .func (.func 50) #[.pointer (some ⟨q, 0, none⟩)] #[], .func (.func 21) #[.pointer (some ⟨g, 0, none⟩)] #[], .func (.func 51) #[.pointer (some ⟨q, 0, none⟩)] #[]] 60 (0, 0))) :
    Calls Try.prog 19 #[.slice (some ⟨b, 0, none⟩) 5 5] w fun e w' => e = .returned (.int .i64 0) ∧ JIn w' q g G j.from_ j.n ((mm : Int) + 1) (nx : Int) j.at_ [] ∧ DG w F G g (Jr.finish d j).1 w' := by
  obtain ⟨d1, d2, d3, d4, e1, e2, e3, e4, e5, c1, c2, c3, c4⟩ := finish_steps hc hm hx hp hf
  have hbl := lt_of_block hb
  have hDG : ∀ {d W}, DG w F G g d W → W.heap[b]? = w.heap[b]? := fun h => h.2.block b hbl (fun hf => hf.elim hbF hbG)
  rw [e5]
  refine (first_redo g q b (fun k W => match k with
    | 0 => W = w
    | 1 => PayS w F g d s k0 q0 j.owed W
    | 2 => St w F g d2 W
    | 3 => DG w F G g d3 W ∧ QB q g j.from_ j.n ((mm : Int) + 1) (nx : Int) j.at_ W
    | 4 => DG w F G g d4 W ∧ QB q g j.from_ j.n ((mm : Int) + 1) (nx : Int) j.at_ W
    | 5 => DG w F G g d4 W ∧ JIn W q g G j.from_ j.n ((mm : Int) + 1) (nx : Int) j.at_ []
    | _ => False) w rfl (fun k W hR => ?_) ?_ ?_ ?_ ?_ ?_).mono (fun e w' ⟨he, hD', hJ'⟩ => ⟨he, hJ', hD'⟩)
  · match k, hR with
    | 0, h => rw [show W = w from h]; exact hb
    | 1, h => exact (PayS.block h hbl hbF).trans hb
    | 2, h => exact (St.block h hbl hbF).trans hb
    | 3, h => exact (hDG h.1).trans hb
    | 4, h => exact (hDG h.1).trans hb
    | 5, h => exact (hDG h.1).trans hb
    | _ + 6, h => exact h.elim
  · intro W hW
    rw [show W = w from hW]
    have hpr : ∀ x ∈ rs, ∀ p ∈ x.2.2, p.1 < s ∧ p.2.length = 64 := fun x hx p hp9 => hp p (by rw [← ho]; exact List.mem_flatMap.2 ⟨x, hx, hp9⟩)
    have := pay_w q g j.from_ j.n j.at_ _ _ G rs d F s k0 q0 w hJ hD hGF hGl hc hs (by rw [ho]; omega) (by rw [ho]; omega) hpr
    rw [ho] at this
    exact this
  · intro W hW
    obtain ⟨d', h1, h2, hS⟩ := (show PayS w F g d s k0 q0 j.owed W from hW)
    rw [e1] at h1
    cases h1
    have := St.flush hS (Nat.le_trans c1.n (by omega)) (Nat.le_trans c1.wait (by omega))
    rw [e2] at this
    exact this
  · intro W hW
    obtain ⟨F', hD2, ht, hm2⟩ := (show St w F g d2 W from hW)
    have hGF2 := hm2.off hGF hGl
    have hJ2 : JIn W q g G j.from_ j.n (mm : Int) (nx : Int) j.at_ rs := hJ.keep (fun _ h => h) (fun k hk hl => ht.block k hl (hGF k hk))
    refine (step_w q g j.from_ j.n j.at_ mm nx G rs d2 d3 F' W hJ2 hD2 hGF2 (fun k hk => Nat.lt_of_lt_of_le (hGl k hk) ht.size) (Nat.le_trans c2.n (by omega)) (Nat.le_trans c2.wait (by decide)) e3 (by omega) hmm hnx ha (fun x hx p hp9 => by have := (hp p (by rw [← ho]; exact List.mem_flatMap.2 ⟨x, hx, hp9⟩)).1; omega) (by rw [ho]; omega)).mono fun e w' ⟨he, ⟨F'', hD3, hm3⟩, ht3, hQ⟩ => ⟨he, ⟨⟨F'', hD3, hm2.chain hm3 ht.size⟩, (ht.mono (fun k _ h => .inl h)).chain ht3 hm2.or⟩, hQ⟩
  · intro W hW
    obtain ⟨hD3, a, l, c, hQ⟩ := (show DG w F G g d3 W ∧ QB q g j.from_ j.n ((mm : Int) + 1) (nx : Int) j.at_ W from hW)
    have := hD3.flush hGF hGl (Nat.le_trans c3.n (by omega)) (Nat.le_trans c3.wait (by decide))
    rw [e4] at this
    exact this.mono fun e w' ⟨he, h1, h2⟩ => ⟨he, h1, a, l, c, (h2 q hJ.hq).trans hQ⟩
  · intro W hW
    obtain ⟨⟨⟨F', hD4, hm4⟩, ht4⟩, a, l, c, hQ⟩ := (show DG w F G g d4 W ∧ QB q g j.from_ j.n ((mm : Int) + 1) (nx : Int) j.at_ W from hW)
    refine (forget2_w q g j.from_ j.n j.at_ _ _ G a l c W hQ hJ.hq).mono fun e w' ⟨he, hJ5, ht5⟩ => ⟨he, ⟨⟨F', hD4.keep ht5.size (fun k hk => ht5.block k (hD4.lt k hk) (fun hg => hm4.off hGF hGl k hg hk)), hm4⟩, ht4.trans (ht5.mono (fun k _ h => .inr h))⟩, hJ5⟩
set_option maxHeartbeats 12800000 in
set_option maxRecDepth 100000 in
theorem redo_w (g q mm nx s k0 q0 : Nat) (j : Jr.J) (rs : List Rec) (d : Dv.S) (F G : Nat → Prop) (w : World) (hJ : JIn w q g G j.from_ j.n (mm : Int) (nx : Int) j.at_ rs) (ho : rs.flatMap (·.2.2) = j.owed) (hD : Dev13 w g d F) (hGF : ∀ k, G k → ¬ F k) (hGl : ∀ k, G k → k < w.heap.size) (hc : Cl d s k0 q0) (hs : s ≤ 65536) (hk : k0 + j.owed.length + 10 ≤ 1000000) (hq : q0 + j.owed.length + 10 ≤ 100000) (hm : j.mark = (mm : Int)) (hx : j.next = (nx : Int)) (hp : ∀ p ∈ j.owed, p.1 < s ∧ p.2.length = 64) (hf : j.from_ + 2 ≤ s) (hmm : mm ≤ 1000000) (hnx : nx ≤ 10000000) (ha : j.at_ ≤ 10000000) :
    Calls Try.prog 25 #[.pointer (some ⟨q, 0, none⟩)] w fun e w' => e = .returned (.int .i64 0) ∧ JIn w' q g G j.from_ j.n ((mm : Int) + 1) (nx : Int) j.at_ [] ∧ DG w F G g (Jr.finish d j).1 w' := by
  obtain ⟨ov, hqb, -⟩ := id hJ.ex
  have HQ := Lib.hid hqb
  have CF := Lib.hid (fun W b (hb : Below w.heap.size w W) (hbs : w.heap.size ≤ b) => redo_steps g q b mm nx s k0 q0 j rs d F G W (hJ.keep (fun _ h => h) (fun k _ hk => hb.block k hk)) ho (hD.later hb) hGF (fun k hk => Nat.lt_of_lt_of_le (hGl k hk) hb.size) hc hs hk hq hm hx hp hf hmm hnx ha (fun h => by have := hD.lt b h; omega) (fun h => by have := hGl b h; omega))
  clear hJ hqb hD ho hGF hGl hc hs hk hq hm hx hp hf hmm hnx ha
  go_enter Try.func25, Try.ntmps25
  go_upto_region 1 with fail
  refine Rel.region_tail 19 (by kernel_rfl) [some 3, some 4, some 5, some 6, some 7, some 8, some 9, some 10, some 11, some 12, some 13, some 14, some 15, some 16, some 17, some 18, some 19, some 20, some 21, some 22, some 2] (by kernel_rfl) (by kernel_rfl) (by kernel_rfl) [.eq (.pointer (some ⟨q, 0, none⟩)), .eq (.func (.func 49) #[.pointer (some ⟨q, 0, none⟩)] #[]), .eq (.pointer (some ⟨q, 0, none⟩)), .eq (.pointer (some ⟨q, 0, none⟩)), .eq (.pointer (some ⟨q, 0, none⟩)), .eq (.pointer (some ⟨q, 0, none⟩)), .eq (.pointer (some ⟨g, 0, none⟩)), .eq (.func (.func 21) #[.pointer (some ⟨g, 0, none⟩)] #[]), .eq (.pointer (some ⟨q, 0, none⟩)), .eq (.func (.func 50) #[.pointer (some ⟨q, 0, none⟩)] #[]), .eq (.pointer (some ⟨q, 0, none⟩)), .eq (.pointer (some ⟨q, 0, none⟩)), .eq (.pointer (some ⟨q, 0, none⟩)), .eq (.pointer (some ⟨q, 0, none⟩)), .eq (.pointer (some ⟨g, 0, none⟩)), .eq (.func (.func 21) #[.pointer (some ⟨g, 0, none⟩)] #[]), .eq (.pointer (some ⟨q, 0, none⟩)), .eq (.func (.func 51) #[.pointer (some ⟨q, 0, none⟩)] #[]), ⟨fun v w9 => ∃ b, v = .slice (some ⟨b, 0, none⟩) 5 5 ∧ w.heap.size ≤ b ∧ w9.heap[b]? = some (.cells #[.func (.func 49) #[.pointer (some ⟨q, 0, none⟩)] #[], .func (.func 21) #[.pointer (some ⟨g, 0, none⟩)] #[], .func (.func 50) #[.pointer (some ⟨q, 0, none⟩)] #[], .func (.func 21) #[.pointer (some ⟨g, 0, none⟩)] #[], .func (.func 51) #[.pointer (some ⟨q, 0, none⟩)] #[]] 60 (0, 0)), fun _ _ _ h hb => by obtain ⟨b, h1, h2, h3⟩ := h; exact ⟨b, h1, h2, (hb.block b (lt_of_block h3)).trans h3⟩⟩] ⟨?_, ?_, ?_, ?_, ?_, ?_, ?_, ?_, ?_, ?_, ?_, ?_, ?_, ?_, ?_, ?_, ?_, ?_, ?_, trivial⟩ ?_
  · intro u w9 hb9 hd9
    clear hd9
    refine ⟨?_⟩
    simp only [Rel.canD, List.take_zero]
    go_wp2_with fail
    exact ⟨rfl, rfl, Below.refl _ _, rfl⟩
  · intro u w9 hb9 hd9
    have e0 : u 0 = .pointer (some ⟨q, 0, none⟩) := hd9 0 (by kernel_rfl)
    clear hd9
    refine ⟨?_⟩
    simp only [Rel.canD, List.take_succ_cons, List.take_zero, Nat.reduceAdd]
    go_wp2_with fail
    exact ⟨rfl, rfl, Below.refl _ _, rfl⟩
  · intro u w9 hb9 hd9
    clear hd9
    refine ⟨?_⟩
    simp only [Rel.canD, List.take_succ_cons, List.take_zero, Nat.reduceAdd]
    go_wp2_with fail
    exact ⟨rfl, rfl, Below.refl _ _, rfl⟩
  · intro u w9 hb9 hd9
    have e2 : u 2 = .pointer (some ⟨q, 0, none⟩) := hd9 2 (by kernel_rfl)
    clear hd9
    refine ⟨?_⟩
    simp only [Rel.canD, List.take_succ_cons, List.take_zero, Nat.reduceAdd]
    go_wp2_with fail
    exact ⟨rfl, rfl, Below.refl _ _, rfl⟩
  · intro u w9 hb9 hd9
    have e3 : u 3 = .pointer (some ⟨q, 0, none⟩) := hd9 3 (by kernel_rfl)
    clear hd9
    refine ⟨?_⟩
    simp only [Rel.canD, List.take_succ_cons, List.take_zero, Nat.reduceAdd]
    go_wp2_with fail
    exact ⟨rfl, rfl, Below.refl _ _, rfl⟩
  · intro u w9 hb9 hd9
    have e4 : u 4 = .pointer (some ⟨q, 0, none⟩) := hd9 4 (by kernel_rfl)
    clear hd9
    refine ⟨?_⟩
    simp only [Rel.canD, List.take_succ_cons, List.take_zero, Nat.reduceAdd]
    go_wp2_with fail
    exact ⟨rfl, rfl, Below.refl _ _, rfl⟩
  · intro u w9 hb9 hd9
    have e5 : u 5 = .pointer (some ⟨q, 0, none⟩) := hd9 5 (by kernel_rfl)
    clear hd9
    have q9 := (hb9.block q (lt_of_block HQ.out)).trans HQ.out
    have c90 := (blk_cell q9 0 _ rfl).1
    clear q9
    simp only [List.getElem_toArray, List.getElem_cons_zero, List.getElem_cons_succ] at c90
    refine ⟨?_⟩
    simp only [Rel.canD, List.take_succ_cons, List.take_zero, Nat.reduceAdd]
    go_wp2_with fail
    exact ⟨rfl, rfl, Below.refl _ _, rfl⟩
  · intro u w9 hb9 hd9
    have e6 : u 6 = .pointer (some ⟨g, 0, none⟩) := hd9 6 (by kernel_rfl)
    clear hd9
    refine ⟨?_⟩
    simp only [Rel.canD, List.take_succ_cons, List.take_zero, Nat.reduceAdd]
    go_wp2_with fail
    exact ⟨rfl, rfl, Below.refl _ _, rfl⟩
  · intro u w9 hb9 hd9
    clear hd9
    refine ⟨?_⟩
    simp only [Rel.canD, List.take_succ_cons, List.take_zero, Nat.reduceAdd]
    go_wp2_with fail
    exact ⟨rfl, rfl, Below.refl _ _, rfl⟩
  · intro u w9 hb9 hd9
    have e8 : u 8 = .pointer (some ⟨q, 0, none⟩) := hd9 8 (by kernel_rfl)
    clear hd9
    refine ⟨?_⟩
    simp only [Rel.canD, List.take_succ_cons, List.take_zero, Nat.reduceAdd]
    go_wp2_with fail
    exact ⟨rfl, rfl, Below.refl _ _, rfl⟩
  · intro u w9 hb9 hd9
    clear hd9
    refine ⟨?_⟩
    simp only [Rel.canD, List.take_succ_cons, List.take_zero, Nat.reduceAdd]
    go_wp2_with fail
    exact ⟨rfl, rfl, Below.refl _ _, rfl⟩
  · intro u w9 hb9 hd9
    have e10 : u 10 = .pointer (some ⟨q, 0, none⟩) := hd9 10 (by kernel_rfl)
    clear hd9
    refine ⟨?_⟩
    simp only [Rel.canD, List.take_succ_cons, List.take_zero, Nat.reduceAdd]
    go_wp2_with fail
    exact ⟨rfl, rfl, Below.refl _ _, rfl⟩
  · intro u w9 hb9 hd9
    have e11 : u 11 = .pointer (some ⟨q, 0, none⟩) := hd9 11 (by kernel_rfl)
    clear hd9
    refine ⟨?_⟩
    simp only [Rel.canD, List.take_succ_cons, List.take_zero, Nat.reduceAdd]
    go_wp2_with fail
    exact ⟨rfl, rfl, Below.refl _ _, rfl⟩
  · intro u w9 hb9 hd9
    have e12 : u 12 = .pointer (some ⟨q, 0, none⟩) := hd9 12 (by kernel_rfl)
    clear hd9
    refine ⟨?_⟩
    simp only [Rel.canD, List.take_succ_cons, List.take_zero, Nat.reduceAdd]
    go_wp2_with fail
    exact ⟨rfl, rfl, Below.refl _ _, rfl⟩
  · intro u w9 hb9 hd9
    have e13 : u 13 = .pointer (some ⟨q, 0, none⟩) := hd9 13 (by kernel_rfl)
    clear hd9
    have q9 := (hb9.block q (lt_of_block HQ.out)).trans HQ.out
    have c90 := (blk_cell q9 0 _ rfl).1
    clear q9
    simp only [List.getElem_toArray, List.getElem_cons_zero, List.getElem_cons_succ] at c90
    refine ⟨?_⟩
    simp only [Rel.canD, List.take_succ_cons, List.take_zero, Nat.reduceAdd]
    go_wp2_with fail
    exact ⟨rfl, rfl, Below.refl _ _, rfl⟩
  · intro u w9 hb9 hd9
    have e14 : u 14 = .pointer (some ⟨g, 0, none⟩) := hd9 14 (by kernel_rfl)
    clear hd9
    refine ⟨?_⟩
    simp only [Rel.canD, List.take_succ_cons, List.take_zero, Nat.reduceAdd]
    go_wp2_with fail
    exact ⟨rfl, rfl, Below.refl _ _, rfl⟩
  · intro u w9 hb9 hd9
    clear hd9
    refine ⟨?_⟩
    simp only [Rel.canD, List.take_succ_cons, List.take_zero, Nat.reduceAdd]
    go_wp2_with fail
    exact ⟨rfl, rfl, Below.refl _ _, rfl⟩
  · intro u w9 hb9 hd9
    have e16 : u 16 = .pointer (some ⟨q, 0, none⟩) := hd9 16 (by kernel_rfl)
    clear hd9
    refine ⟨?_⟩
    simp only [Rel.canD, List.take_succ_cons, List.take_zero, Nat.reduceAdd]
    go_wp2_with fail
    exact ⟨rfl, rfl, Below.refl _ _, rfl⟩
  · intro u w9 hb9 hd9
    have e1 : u 1 = .func (.func 49) #[.pointer (some ⟨q, 0, none⟩)] #[] := hd9 1 (by kernel_rfl)
    have e7 : u 7 = .func (.func 21) #[.pointer (some ⟨g, 0, none⟩)] #[] := hd9 7 (by kernel_rfl)
    have e9 : u 9 = .func (.func 50) #[.pointer (some ⟨q, 0, none⟩)] #[] := hd9 9 (by kernel_rfl)
    have e15 : u 15 = .func (.func 21) #[.pointer (some ⟨g, 0, none⟩)] #[] := hd9 15 (by kernel_rfl)
    have e17 : u 17 = .func (.func 51) #[.pointer (some ⟨q, 0, none⟩)] #[] := hd9 17 (by kernel_rfl)
    clear hd9
    have hbx : Below w9.heap.size w9 (w9.alloc (.cells #[.func (.func 49) #[.pointer (some ⟨q, 0, none⟩)] #[], .func (.func 21) #[.pointer (some ⟨g, 0, none⟩)] #[], .func (.func 50) #[.pointer (some ⟨q, 0, none⟩)] #[], .func (.func 21) #[.pointer (some ⟨g, 0, none⟩)] #[], .func (.func 51) #[.pointer (some ⟨q, 0, none⟩)] #[]] 60)) := (Below.refl _ w9).alloc (Nat.le_refl _) _
    have hnx := heap_alloc_new w9 (.cells #[.func (.func 49) #[.pointer (some ⟨q, 0, none⟩)] #[], .func (.func 21) #[.pointer (some ⟨g, 0, none⟩)] #[], .func (.func 50) #[.pointer (some ⟨q, 0, none⟩)] #[], .func (.func 21) #[.pointer (some ⟨g, 0, none⟩)] #[], .func (.func 51) #[.pointer (some ⟨q, 0, none⟩)] #[]] 60)
    have hsz := hb9.size
    refine ⟨?_⟩
    simp only [Rel.canD, List.take_succ_cons, List.take_zero, Nat.reduceAdd]
    go_wp2_with fail
    exact ⟨rfl, rfl, hbx, w9.heap.size, rfl, hsz, hnx⟩
  intro u w9 hb9 hR9
  simp only [Rel.canD, Nat.reduceAdd, List.take_succ_cons, List.take_zero, List.drop_succ_cons, List.drop_zero]
  obtain ⟨b, h18, hbs, hc9⟩ := hR9 18 (by decide)
  rw [h18]
  have cF := CF.out w9 b hb9 hbs hc9
  have HB9 := Lib.hid hb9
  clear hR9 hb9 h18 hbs hc9
  go_wp2_with fail
  refine cF.mono ?_
  rintro e w5 ⟨rfl, hJ5, ⟨F', hD5, hm5⟩, ht5⟩
  have HX : Hid (JIn w5 q g G j.from_ j.n ((mm : Int) + 1) (nx : Int) j.at_ [] ∧ DG w F G g (Jr.finish d j).1 w5) := Lib.hid ⟨hJ5, ⟨F', hD5, fun k hk => (hm5 k hk).imp id (fun h => Nat.le_trans HB9.out.size h)⟩, (Touch.of HB9.out).trans ht5⟩
  clear cF hJ5 hD5 hm5 ht5
  go_wp2_with fail
  go_ret
  exact ⟨rfl, HX.out.1, HX.out.2⟩
end Go.Proofs.Ytjdmmnpfjbnhoaa
namespace Go.Proofs.Ytjdmmnpfjbnhoaa
open Go.RowKit

theorem DG.chain {w W w' : World} {F F' G : Nat → Prop} {g : Nat} {d : Dv.S} (ht : Touch (fun k => F k ∨ G k) w W) (hm : More F F' w) (h : DG W F' G g d w') : DG w F G g d w' := by
  obtain ⟨⟨F'', hD, hm'⟩, ht'⟩ := h
  exact ⟨⟨F'', hD, hm.chain hm' ht.size⟩, ht.chain ht' hm.or⟩
theorem settle_steps (g q b mm nx s k0 q0 : Nat) (j : Jr.J) (rs : List Rec) (d d1 : Dv.S) (F G : Nat → Prop) (w : World) (hJ : JIn w q g G j.from_ j.n (mm : Int) (nx : Int) j.at_ rs) (ho : rs.flatMap (·.2.2) = j.owed) (hD : Dev13 w g d F) (hGF : ∀ k, G k → ¬ F k) (hGl : ∀ k, G k → k < w.heap.size) (hc : Cl d s k0 q0) (hd : Dv.flush d = (d1, 0)) (hs : s ≤ 65536) (hk : k0 + j.owed.length + 11 ≤ 1000000) (hq : q0 + j.owed.length + 10 ≤ 100000) (hm : j.mark = (mm : Int)) (hx : j.next = (nx : Int)) (hp : ∀ p ∈ j.owed, p.1 < s ∧ p.2.length = 64) (hf : j.from_ + 2 ≤ s) (hmm : mm ≤ 1000000) (hnx : nx ≤ 10000000) (ha : j.at_ ≤ 10000000)
    (hbF : ¬ F b) (hbG : ¬ G b) (hb : w.heap[b]? = some (.cells #[.func (.func 21) #[.pointer (some ⟨g, 0, none⟩)] #[], .func (.func 25) #[.pointer (some ⟨q, 0, none⟩)] #[]] 60 (0, 0))) :
    Calls Try.prog 19 #[.slice (some ⟨b, 0, none⟩) 2 2] w fun e w' => e = .returned (.int .i64 0) ∧ JIn w' q g G j.from_ j.n ((mm : Int) + 1) (nx : Int) j.at_ [] ∧ DG w F G g (Jr.finish d1 j).1 w' := by
  obtain ⟨d9, e9, c1⟩ := hc.flush
  rw [hd] at e9
  cases e9
  have hbl := lt_of_block hb
  refine (first_settle g q b (fun k W => match k with
    | 0 => W = w
    | 1 => St w F g d1 W
    | 2 => DG w F G g (Jr.finish d1 j).1 W ∧ JIn W q g G j.from_ j.n ((mm : Int) + 1) (nx : Int) j.at_ []
    | _ => False) w rfl (fun k W hR => ?_) ?_ ?_).mono (fun e w' ⟨he, hD', hJ'⟩ => ⟨he, hJ', hD'⟩)
  · match k, hR with
    | 0, h => rw [show W = w from h]; exact hb
    | 1, h => exact (St.block h hbl hbF).trans hb
    | 2, h => exact (h.1.2.block b hbl (fun hf => hf.elim hbF hbG)).trans hb
    | _ + 3, h => exact h.elim
  · intro W hW
    rw [show W = w from hW]
    have := St.flush (St.refl hD) (Nat.le_trans hc.n (by omega)) (Nat.le_trans hc.wait (by omega))
    rw [hd] at this
    exact this
  · intro W hW
    obtain ⟨F', hD2, ht, hm2⟩ := (show St w F g d1 W from hW)
    have hJ2 : JIn W q g G j.from_ j.n (mm : Int) (nx : Int) j.at_ rs := hJ.keep (fun _ h => h) (fun k hk hl => ht.block k hl (hGF k hk))
    exact (redo_w g q mm nx s (k0 + 1) 0 j rs d1 F' G W hJ2 ho hD2 (hm2.off hGF hGl) (fun k hk => Nat.lt_of_lt_of_le (hGl k hk) ht.size) c1 hs (by omega) (by omega) hm hx hp hf hmm hnx ha).mono fun e w' ⟨he, hJ3, hD3⟩ => ⟨he, hD3.chain (ht.mono (fun k _ h => .inl h)) hm2, hJ3⟩
set_option maxHeartbeats 12800000 in
set_option maxRecDepth 100000 in
theorem settle_w (g q mm nx s k0 q0 : Nat) (j : Jr.J) (rs : List Rec) (d d1 : Dv.S) (F G : Nat → Prop) (w : World) (hJ : JIn w q g G j.from_ j.n (mm : Int) (nx : Int) j.at_ rs) (h0 : rs ≠ []) (hl : rs.length ≤ 1000000) (ho : rs.flatMap (·.2.2) = j.owed) (hD : Dev13 w g d F) (hGF : ∀ k, G k → ¬ F k) (hGl : ∀ k, G k → k < w.heap.size) (hc : Cl d s k0 q0) (hd : Dv.flush d = (d1, 0)) (hs : s ≤ 65536) (hk : k0 + j.owed.length + 11 ≤ 1000000) (hq : q0 + j.owed.length + 10 ≤ 100000) (hm : j.mark = (mm : Int)) (hx : j.next = (nx : Int)) (hp : ∀ p ∈ j.owed, p.1 < s ∧ p.2.length = 64) (hf : j.from_ + 2 ≤ s) (hmm : mm ≤ 1000000) (hnx : nx ≤ 10000000) (ha : j.at_ ≤ 10000000) :
    Calls Try.prog 29 #[.pointer (some ⟨q, 0, none⟩)] w fun e w' => e = .returned (.int .i64 0) ∧ JIn w' q g G j.from_ j.n ((mm : Int) + 1) (nx : Int) j.at_ [] ∧ DG w F G g (Jr.finish d1 j).1 w' := by
  obtain ⟨ov, hqb, -⟩ := id hJ.ex
  have HQ := Lib.hid hqb
  have CO := Lib.hid (owed_w q g _ _ _ _ _ G rs w hJ)
  have CF := Lib.hid (fun W b (hb : Below w.heap.size w W) (hbs : w.heap.size ≤ b) => settle_steps g q b mm nx s k0 q0 j rs d d1 F G W (hJ.keep (fun _ h => h) (fun k _ hk => hb.block k hk)) ho (hD.later hb) hGF (fun k hk => Nat.lt_of_lt_of_le (hGl k hk) hb.size) hc hd hs hk hq hm hx hp hf hmm hnx ha (fun h => by have := hD.lt b h; omega) (fun h => by have := hGl b h; omega))
  have hL0 : (rs.length : Int) ≠ 0 := fun e => h0 (List.eq_nil_of_length_eq_zero (by omega))
  obtain ⟨L, hL⟩ : ∃ L : Int, L = rs.length := ⟨_, rfl⟩
  rw [← hL] at CO hL0
  clear hJ hqb hD ho hGF hGl hc hd hs hk hq hm hx hp hf hmm hnx ha h0 hl hL
  go_enter Try.func29, Try.ntmps29
  go_wp2_with fail
  refine CO.out.mono ?_
  rintro e w0 ⟨rfl, rfl⟩
  go_upto_region 3 with fail
  have c0 := (blk_cell HQ.out 0 (.pointer (some ⟨g, 0, none⟩)) rfl).1
  have hnx := heap_alloc_new w (.cells #[.func (.func 21) #[.pointer (some ⟨g, 0, none⟩)] #[], .func (.func 25) #[.pointer (some ⟨q, 0, none⟩)] #[]] 60)
  have hbx : Below w.heap.size w (w.alloc (.cells #[.func (.func 21) #[.pointer (some ⟨g, 0, none⟩)] #[], .func (.func 25) #[.pointer (some ⟨q, 0, none⟩)] #[]] 60)) := (Below.refl _ w).alloc (Nat.le_refl _) _
  have cF := CF.out _ _ hbx (Nat.le_refl _) hnx
  have HB9 := Lib.hid hbx
  clear hnx hbx
  go_wp2_with fail
  refine cF.mono ?_
  rintro e w5 ⟨rfl, hJ5, ⟨F', hD5, hm5⟩, ht5⟩
  have HX : Hid (JIn w5 q g G j.from_ j.n ((mm : Int) + 1) (nx : Int) j.at_ [] ∧ DG w F G g (Jr.finish d1 j).1 w5) := Lib.hid ⟨hJ5, ⟨F', hD5, fun k hk => (hm5 k hk).imp id (fun h => Nat.le_trans HB9.out.size h)⟩, (Touch.of HB9.out).trans ht5⟩
  clear cF hJ5 hD5 hm5 ht5
  go_wp2_with fail
  go_ret
  exact ⟨rfl, HX.out.1, HX.out.2⟩
end Go.Proofs.Ytjdmmnpfjbnhoaa
namespace Go.Proofs.Ytjdmmnpfjbnhoaa
open Go.RowKit

set_option maxHeartbeats 12800000 in
set_option maxRecDepth 100000 in
theorem room_w (g q size : Nat) (m : Int) (j : Jr.J) (rs : List Rec) (G : Nat → Prop) (w : World) (hJ : JIn w q g G j.from_ j.n m j.next j.at_ rs) (hc : rs.length = j.cnt) (hb : ∀ x, rs.head? = some x → x.2.1 = j.base) (hwr : j.wrapped = true ↔ (j.cnt ≠ 0 ∧ j.at_ ≤ j.base)) (hz : size ≤ 1000000) (hn : j.n ≤ 1000000) (ha : j.at_ ≤ 1000000) (hb9 : j.base ≤ 1000000) (hfull : 2 + size ≤ j.n) :
    Calls Try.prog 27 #[.pointer (some ⟨q, 0, none⟩), .int .i64 (size : Int)] w fun e w' => Below w.heap.size w w' ∧ ∃ a : Nat, (Jr.fits j size = some a ∧ e = .returned (.tuple #[.int .i64 (a : Int), .bool true]) ∨ Jr.fits j size = none ∧ e = .returned (.tuple #[.int .i64 (a : Int), .bool false])) := by
  obtain ⟨⟨ov, hq, hR⟩, hGq⟩ := id hJ
  obtain ⟨oa, oc, rfl, hoc, hoc9, hob⟩ := hR.shape
  have CO := Lib.hid (owed_w q g _ _ _ _ _ G rs w hJ)
  have c2 := (blk_cell hq 2 _ rfl).1
  have c5 := (blk_cell hq 5 _ rfl).1
  have c6 := (blk_cell hq 6 _ rfl).1
  simp only [List.getElem_toArray, List.getElem_cons_zero, List.getElem_cons_succ] at c2 c5 c6
  have HF : Hid (Jr.fits j size = if (j.cnt ≠ 0 ∧ j.at_ ≤ j.base) then (if j.at_ + size ≤ j.base then some j.at_ else none) else if j.at_ + size ≤ j.n then some j.at_ else if j.cnt = 0 ∨ 2 + size ≤ j.base then some 2 else none) := Lib.hid (by unfold Jr.fits; simp only [hwr])
  generalize Jr.fits j size = FT at HF ⊢
  generalize j.at_ = at_ at *
  generalize j.base = base at *
  generalize j.n = n at *
  have i1 : (size : Int) ≤ 1000000 := by omega
  have i2 : (n : Int) ≤ 1000000 := by omega
  have i3 : (at_ : Int) ≤ 1000000 := by omega
  have i4 : (base : Int) ≤ 1000000 := by omega
  have i5 : (0 : Int) ≤ (size : Int) := by omega
  have i6 : (0 : Int) ≤ (at_ : Int) := by omega
  by_cases h0 : rs = []
  · subst h0
    have hc0 : j.cnt = 0 := hc.symm
    rw [hc0] at HF
    have HF2 : Hid (FT = if at_ + size ≤ n then some at_ else some 2) := Lib.hid (by rw [HF.out]; simp)
    clear HF hq hR hGq hb hc hc0 hwr hJ hob hoc hb9 hn ha hz
    simp only [List.length_nil] at CO c6
    go_enter Try.func27, Try.ntmps27
    go_wp2_with fail
    refine CO.out.mono ?_
    rintro e w0 ⟨rfl, rfl⟩
    by_cases h1 : at_ + size ≤ n
    · have h1i : (at_ : Int) + (size : Int) ≤ (n : Int) := by omega
      have HX : Hid (FT = some at_) := Lib.hid (by rw [HF2.out, if_pos h1])
      clear h1
      go_wp2_with fail
      go_region
      go_wp2_with fail
      go_ret2
      exact ⟨(Below.refl _ _).drew, at_, .inl ⟨HX.out, rfl⟩⟩
    · have h1i : ¬ (at_ : Int) + (size : Int) ≤ (n : Int) := by omega
      have h2i : (2 : Int) + (size : Int) ≤ (n : Int) := by omega
      have HX : Hid (FT = some 2) := Lib.hid (by rw [HF2.out, if_neg h1])
      clear h1
      go_wp2_with fail
      go_region
      go_wp2_with fail
      go_ret2
      exact ⟨(Below.refl _ _).drew, 2, .inl ⟨HX.out, rfl⟩⟩
  · obtain ⟨b, rfl⟩ := hob h0
    obtain ⟨x, rs', rfl⟩ := List.exists_cons_of_ne_nil h0
    have hx := hb x rfl
    obtain ⟨pv, r0, r1, r2, -⟩ := hR.nth (k := 0) (x := x) rfl
    rw [hx] at r1
    have hcn : j.cnt ≠ 0 := by rw [← hc]; simp
    have HF2 : Hid (FT = if at_ ≤ base then (if at_ + size ≤ base then some at_ else none) else if at_ + size ≤ n then some at_ else if 2 + size ≤ base then some 2 else none) := Lib.hid (by rw [HF.out]; simp [hcn])
    obtain ⟨L, hL⟩ : ∃ L, L = (x :: rs').length := ⟨_, rfl⟩
    rw [← hL] at CO c6 hoc
    have hL0 : (0 : Int) < (L : Int) := by rw [hL, List.length_cons]; omega
    have hL1 : 0 < L := by omega
    have hLc : (L : Int) ≤ 9223372036854775807 := by omega
    clear HF hq hR hGq hb hc hwr hJ hob hb9 hn ha hz hL hx hcn h0 r0 r2
    go_enter Try.func27, Try.ntmps27
    go_wp2_with fail
    refine CO.out.mono ?_
    rintro e w0 ⟨rfl, rfl⟩
    by_cases h1 : at_ ≤ base
    · have h1i : (at_ : Int) ≤ (base : Int) := by omega
      by_cases h2 : at_ + size ≤ base
      · have h2i : (at_ : Int) + (size : Int) ≤ (base : Int) := by omega
        have HX : Hid (FT = some at_) := Lib.hid (by rw [HF2.out, if_pos h1, if_pos h2])
        clear h1 h2
        go_wp2_with fail
        go_region
        go_wp2_with fail
        go_ret2
        exact ⟨(Below.refl _ _).drew, at_, .inl ⟨HX.out, rfl⟩⟩
      · have h2i : ¬ (at_ : Int) + (size : Int) ≤ (base : Int) := by omega
        have HX : Hid (FT = none) := Lib.hid (by rw [HF2.out, if_pos h1, if_neg h2])
        clear h1 h2
        go_wp2_with fail
        go_region
        go_wp2_with fail
        go_ret2
        exact ⟨(Below.refl _ _).drew, at_, .inr ⟨HX.out, by show Ending.returned (.tuple #[.int .i64 (at_ : Int), .bool (decide ((at_ : Int) + (size : Int) ≤ (base : Int)))]) = _; rw [decide_eq_false (Int.not_le.2 h2i)]⟩⟩
    · have h1i : ¬ (at_ : Int) ≤ (base : Int) := by omega
      by_cases h2 : at_ + size ≤ n
      · have h2i : (at_ : Int) + (size : Int) ≤ (n : Int) := by omega
        have HX : Hid (FT = some at_) := Lib.hid (by rw [HF2.out, if_neg h1, if_pos h2])
        clear h1 h2
        go_wp2_with fail
        go_region
        go_wp2_with fail
        go_ret2
        exact ⟨(Below.refl _ _).drew, at_, .inl ⟨HX.out, rfl⟩⟩
      · have h2i : ¬ (at_ : Int) + (size : Int) ≤ (n : Int) := by omega
        by_cases h3 : 2 + size ≤ base
        · have h3i : (2 : Int) + (size : Int) ≤ (base : Int) := by omega
          have HX : Hid (FT = some 2) := Lib.hid (by rw [HF2.out, if_neg h1, if_neg h2, if_pos h3])
          clear h1 h2 h3
          go_wp2_with fail
          go_region
          go_wp2_with fail
          go_ret2
          exact ⟨(Below.refl _ _).drew, 2, .inl ⟨HX.out, rfl⟩⟩
        · have h3i : ¬ (2 : Int) + (size : Int) ≤ (base : Int) := by omega
          have HX : Hid (FT = none) := Lib.hid (by rw [HF2.out, if_neg h1, if_neg h2, if_neg h3])
          clear h1 h2 h3
          go_wp2_with fail
          go_region
          go_wp2_with fail
          go_ret2
          exact ⟨(Below.refl _ _).drew, 2, .inr ⟨HX.out, by show Ending.returned (.tuple #[.int .i64 2, .bool (decide ((2 : Int) + (size : Int) ≤ (base : Int)))]) = _; rw [decide_eq_false (Int.not_le.2 h3i)]; rfl⟩⟩
end Go.Proofs.Ytjdmmnpfjbnhoaa
