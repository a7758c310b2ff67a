/- The document's own device (layer 13) in memory; there, call, See, Fail. -/
import Derived.Test.YtlipgphmhkjnpaaDoorDvP1
import Derived.Test.YtlipgphmhkjnpaaDoorQuiet
namespace Dv
/-- The latest write to a sector. -/
theorem last_at (safe : List Sec) (l : List (Nat × Sec)) (i : Nat) (k : Nat) (hk : k < l.length) (h1 : l[k].1 = i) (h2 : ∀ j (hj : j < l.length), k < j → l[j].1 ≠ i) : last safe l i = l[k].2 := by
  have e : l = l.take k ++ l[k] :: l.drop (k + 1) := by rw [← List.drop_eq_getElem_cons hk, List.take_append_drop]
  have h3 : ∀ w ∈ l.drop (k + 1), w.1 ≠ i := fun w hw => by
    obtain ⟨j, hj, rfl⟩ := List.getElem_of_mem hw
    rw [List.getElem_drop]
    exact h2 _ (by rw [List.length_drop] at hj; omega) (by omega)
  generalize l[k] = y at e h1 ⊢
  unfold last
  generalize l.take k = l1 at e
  generalize l.drop (k + 1) = l2 at e h3
  subst e
  rw [List.foldl_append, List.foldl_cons]
  have hh : ∀ (m : List (Nat × Sec)) (x : Sec), (∀ w ∈ m, w.1 ≠ i) → m.foldl (fun x w => if w.1 = i then w.2 else x) x = x := by
    intro m
    induction m with
    | nil => intro x _; rfl
    | cons w m ih => intro x hm; rw [List.foldl_cons, if_neg (hm w (List.mem_cons_self ..))]; exact ih x (fun y hy => hm y (List.mem_cons_of_mem _ hy))
  rw [hh _ _ h3, if_pos h1]
end Dv
namespace Go.Proofs.YtlipgphmhkjnpaaDoor
open Go.RowKit

/-- Octets, in one of F's blocks. -/
def OIn (F : Nat → Prop) (w : World) (v : Value) (l : List UInt8) : Prop := ∃ (b o cap : Nat) (C : Array Value) (fr : Nat × Nat), v = .slice (some ⟨b, o, none⟩) l.length cap ∧ l.length ≤ cap ∧ cap ≤ 9223372036854775807 ∧ F b ∧ w.heap[b]? = some (.cells C 5 fr) ∧ ∀ j (hj : j < l.length), C[o + j]? = some (.int .u8 (l[j].toNat : Int))
theorem OIn.keep {F F' : Nat → Prop} {w w' : World} {v : Value} {l : List UInt8} (h : OIn F w v l) (hF : ∀ k, F k → F' k) (hk : ∀ k C fr, F k → w.heap[k]? = some (.cells C 5 fr) → w'.heap[k]? = w.heap[k]?) : OIn F' w' v l := by
  obtain ⟨b, o, cap, C, fr, h1, h2, h3, h4, h5, h6⟩ := h
  exact ⟨b, o, cap, C, fr, h1, h2, h3, hF b h4, by rw [hk b C fr h4 h5]; exact h5, h6⟩
theorem OIn.bin {F : Nat → Prop} {w : World} {v : Value} {l : List UInt8} (h : OIn F w v l) : BIn w v l ∧ NilOk v := by
  obtain ⟨b, o, cap, C, fr, h1, h2, h3, h4, h5, h6⟩ := h
  refine ⟨⟨_, cap, h1, h2, h3, .inr ⟨b, o, rfl, lt_of_block h5, fun j hj => ?_⟩⟩, by rw [h1]; exact fun c h => by injection h with h; cases h⟩
  simp only [World.cell?, h5]
  simpa using h6 j hj
/-- Numbers that lie below B. -/
def IBad (B : Nat) (w : World) (v : Value) (l : List Int) : Prop := ∃ ao cap, v = .slice ao l.length cap ∧ l.length ≤ cap ∧ cap ≤ 9223372036854775807 ∧ (l = [] ∨ ∃ b o, ao = some ⟨b, o, none⟩ ∧ b < w.heap.size ∧ b < B ∧ ∀ j (hj : j < l.length), w.cell? ⟨b, o + j, none⟩ = some (.int .i64 l[j]))
theorem IBad.keep {B : Nat} {w w' : World} {v : Value} {l : List Int} (h : IBad B w v l) (hs : w.heap.size ≤ w'.heap.size) (hk : ∀ k, k < B → k < w.heap.size → w'.heap[k]? = w.heap[k]?) : IBad B w' v l := by
  obtain ⟨ao, cap, hv, h1, h2, h3⟩ := h
  refine ⟨ao, cap, hv, h1, h2, ?_⟩
  rcases h3 with h | ⟨b, o, e, hb, hB, hc⟩
  · exact .inl h
  · exact .inr ⟨b, o, e, Nat.lt_of_lt_of_le hb hs, hB, fun j hj => by rw [← hc j hj]; exact World.cell?_of_block (a := ⟨b, o + j, none⟩) (hk b hB hb)⟩
def rwcells (x : Nat × Value) : List Value := [.int .i64 (x.1 : Int), x.2]
/-- The document's device at block g. -/
structure RMed (w : World) (g : Nat) (F : Nat → Prop) (B : Nat) (vs vw vb : Value) (us : List Value) (ws : List (Nat × Value)) (d : Dv.S) : Prop where
  blk : w.heap[g]? = some (.cells #[vs, vw, .int .i64 (d.n : Int), vb, .int .i64 d.left] 81 (0, 0))
  safe : w.ownsRow 0 23 1 vs us.length us
  wait : w.ownsRow 0 84 2 vw ws.length (ws.flatMap rwcells)
  lus : us.length = d.safe.length
  lws : ws.length = d.wait.length
  sec : ∀ j (h1 : j < us.length) (h2 : j < d.safe.length), OIn F w us[j] d.safe[j]
  wts : ∀ j (h1 : j < ws.length) (h2 : j < d.wait.length), ws[j].1 = d.wait[j].1 ∧ OIn F w ws[j].2 d.wait[j].2
  bad : IBad B w vb d.bad
  hg : F g
  hs : ∀ k, vs.ownBlock = some k → F k
  hw : ∀ k, vw.ownBlock = some k → F k
  le : d.safe.length ≤ 65536
  gS : ∀ x ∈ d.safe, x.length = 64
  gW : ∀ x ∈ d.wait, x.1 < d.safe.length ∧ x.2.length = 64
  hB : ∀ k, F k → B ≤ k
  left : -9223372036854775808 ≤ d.left ∧ d.left ≤ 9223372036854775807
section
variable {w w' : World} {g B : Nat} {F F' : Nat → Prop} {vs vw vb : Value} {us : List Value} {ws : List (Nat × Value)} {d : Dv.S}
theorem RMed.keep (h : RMed w g F B vs vw vb us ws d) (hs : w.heap.size ≤ w'.heap.size) (hk : ∀ k, k < w.heap.size → F k ∨ k < B → w'.heap[k]? = w.heap[k]?) : RMed w' g F B vs vw vb us ws d :=
  ⟨by rw [hk g (lt_of_block h.blk) (.inl h.hg)]; exact h.blk, ownsRow_keep h.safe (fun k hv => hk k (World.ownsRow.lt h.safe k hv).2 (.inl (h.hs k hv))), ownsRow_keep h.wait (fun k hv => hk k (World.ownsRow.lt h.wait k hv).2 (.inl (h.hw k hv))), h.lus, h.lws,
   fun j h1 h2 => (h.sec j h1 h2).keep (fun _ hf => hf) (fun k C fr hf hb => hk k (lt_of_block hb) (.inl hf)), fun j h1 h2 => ⟨(h.wts j h1 h2).1, (h.wts j h1 h2).2.keep (fun _ hf => hf) (fun k C fr hf hb => hk k (lt_of_block hb) (.inl hf))⟩,
   h.bad.keep hs (fun k hb hl => hk k hl (.inr hb)), h.hg, h.hs, h.hw, h.le, h.gS, h.gW, h.hB, h.left⟩
theorem RMed.later (h : RMed w g F B vs vw vb us ws d) (hb : Below w.heap.size w w') : RMed w' g F B vs vw vb us ws d := h.keep hb.size (fun k hk _ => hb.block k hk)
theorem RMed.mono (h : RMed w g F B vs vw vb us ws d) (hF : ∀ k, F k → F' k) (hB : ∀ k, F' k → B ≤ k) : RMed w g F' B vs vw vb us ws d :=
  ⟨h.blk, h.safe, h.wait, h.lus, h.lws, fun j h1 h2 => (h.sec j h1 h2).keep hF (fun _ _ _ _ _ => rfl), fun j h1 h2 => ⟨(h.wts j h1 h2).1, (h.wts j h1 h2).2.keep hF (fun _ _ _ _ _ => rfl)⟩, h.bad, hF _ h.hg, fun k hk => hF k (h.hs k hk), fun k hk => hF k (h.hw k hk), h.le, h.gS, h.gW, hB, h.left⟩
theorem RMed.c0 (h : RMed w g F B vs vw vb us ws d) : w.cell? ⟨g, 0, none⟩ = some vs := (blk_cell h.blk 0 _ rfl).1
theorem RMed.c1 (h : RMed w g F B vs vw vb us ws d) : w.cell? ⟨g, 1, none⟩ = some vw := (blk_cell h.blk 1 _ rfl).1
theorem RMed.c2 (h : RMed w g F B vs vw vb us ws d) : w.cell? ⟨g, 2, none⟩ = some (.int .i64 (d.n : Int)) := (blk_cell h.blk 2 _ rfl).1
theorem RMed.c3 (h : RMed w g F B vs vw vb us ws d) : w.cell? ⟨g, 3, none⟩ = some vb := (blk_cell h.blk 3 _ rfl).1
theorem RMed.c4 (h : RMed w g F B vs vw vb us ws d) : w.cell? ⟨g, 4, none⟩ = some (.int .i64 d.left) := (blk_cell h.blk 4 _ rfl).1
theorem RMed.free (h : RMed w g F B vs vw vb us ws d) (j : Nat) : w.frozen? ⟨g, j, none⟩ = false := by simp only [World.frozen?, h.blk]; simp
theorem row_type {base : Nat} {e : TypeId} {size n : Nat} {v : Value} {xs : List Value} (h : w.ownsRow base e size v n xs) {k : Nat} (hk : v.ownBlock = some k) : ∃ C, w.heap[k]? = some (.cells C e (0, 0)) := by
  rcases h.2 with ⟨hv, _⟩ | ⟨q, cap, cur, hv, _, hh, _⟩
  · rw [hv] at hk; cases hk
  · rw [hv] at hk; cases hk; exact ⟨cur, hh⟩
/-- The device's block alone is another: the rest. -/
theorem RMed.block (h : RMed w g F B vs vw vb us ws d) {d' : Dv.S} {vb' : Value} (hb : w'.heap[g]? = some (.cells #[vs, vw, .int .i64 (d'.n : Int), vb', .int .i64 d'.left] 81 (0, 0))) (ht : Touch (fun k => k = g) w w') (e1 : d'.safe = d.safe) (e2 : d'.wait = d.wait) (hbad : IBad B w' vb' d'.bad) (hl : -9223372036854775808 ≤ d'.left ∧ d'.left ≤ 9223372036854775807) : RMed w' g F B vs vw vb' us ws d' := by
  have hk : ∀ k, k < w.heap.size → k ≠ g → w'.heap[k]? = w.heap[k]? := fun k hk hn => ht.block k hk hn
  have ho : ∀ k C fr, F k → w.heap[k]? = some (.cells C 5 fr) → w'.heap[k]? = w.heap[k]? := fun k C fr _ hb9 => hk k (lt_of_block hb9) (fun e => ne_block hb9 h.blk (by decide) e)
  refine ⟨hb, ownsRow_keep h.safe (fun k hv => ?_), ownsRow_keep h.wait (fun k hv => ?_), by rw [e1]; exact h.lus, by rw [e2]; exact h.lws, fun j h1 h2 => ?_, fun j h1 h2 => ?_, hbad, h.hg, h.hs, h.hw, by rw [e1]; exact h.le, by rw [e1]; exact h.gS, by rw [e1, e2]; exact h.gW, h.hB, hl⟩
  · obtain ⟨C, hC⟩ := row_type h.safe hv
    exact hk k (lt_of_block hC) (fun e => ne_block hC h.blk (by decide) e)
  · obtain ⟨C, hC⟩ := row_type h.wait hv
    exact hk k (lt_of_block hC) (fun e => ne_block hC h.blk (by decide) e)
  · have := (h.sec j h1 (by rw [e1] at h2; exact h2)).keep (fun _ hf => hf) ho
    simp only [e1]
    exact this
  · have := h.wts j h1 (by rw [e2] at h2; exact h2)
    simp only [e2]
    exact ⟨this.1, this.2.keep (fun _ hf => hf) ho⟩
end

set_option maxHeartbeats 1600000 in
set_option maxRecDepth 100000 in
theorem rthere_w (w : World) (g : Nat) (d : Dv.S) (av : Option Addr) (n cv : Nat) (hn : n = d.safe.length) (hl : n ≤ 65536) (hcv : n ≤ cv) (hcv9 : cv ≤ 9223372036854775807) (q0 : w.cell? ⟨g, 0, none⟩ = some (.slice av n cv)) (a k : Int) (ha : -9223372036854775808 ≤ a ∧ a ≤ 9223372036854775807) (_hk : -9223372036854775808 ≤ k ∧ k ≤ 9223372036854775807) :
    Calls Tryd.prog 36 #[.pointer (some ⟨g, 0, none⟩), .int .i64 a, .int .i64 k] w fun e w' => e = .returned (.bool (Dv.there d a k)) ∧ w = w' := by
  have HT : Hid (Dv.there d a k = (decide (0 ≤ a) && (decide (0 ≤ k) && (decide (a ≤ n) && decide (k ≤ n - a))))) := Lib.hid (by
    unfold Dv.there
    rw [hn, Bool.eq_iff_iff]
    simp only [Bool.and_eq_true, decide_eq_true_eq])
  have hni : (n : Int) ≤ 65536 := by omega
  clear hn
  by_cases h1 : 0 ≤ a
  · by_cases h2 : 0 ≤ k
    · by_cases h3 : a ≤ n
      · have hw : IntKind.i64.wrap ((n : Int) - a) = (n : Int) - a := by rw [IntKind.wrap_i64]; omega
        by_cases h4 : k ≤ (n : Int) - a
        · have HR : Hid (Dv.there d a k = true) := Lib.hid (by rw [HT.out, decide_eq_true h1, decide_eq_true h2, decide_eq_true h3, decide_eq_true h4]; rfl)
          go_enter Tryd.func36, Tryd.ntmps36
          go_wp2_with fail
          go_ret
          exact ⟨by rw [HR.out]; rfl, rfl⟩
        · have HR : Hid (Dv.there d a k = false) := Lib.hid (by rw [HT.out, decide_eq_true h1, decide_eq_true h2, decide_eq_true h3, decide_eq_false h4]; rfl)
          go_enter Tryd.func36, Tryd.ntmps36
          go_wp2_with fail
          go_ret
          exact ⟨by rw [HR.out]; rfl, rfl⟩
      · have HR : Hid (Dv.there d a k = false) := Lib.hid (by rw [HT.out, decide_eq_true h1, decide_eq_true h2, decide_eq_false h3]; rfl)
        go_enter Tryd.func36, Tryd.ntmps36
        go_wp2_with fail
        go_ret
        exact ⟨by rw [HR.out]; rfl, rfl⟩
    · have HR : Hid (Dv.there d a k = false) := Lib.hid (by rw [HT.out, decide_eq_true h1, decide_eq_false h2]; rfl)
      go_enter Tryd.func36, Tryd.ntmps36
      go_wp2_with fail
      go_ret
      exact ⟨by rw [HR.out]; rfl, rfl⟩
  · have HR : Hid (Dv.there d a k = false) := Lib.hid (by rw [HT.out, decide_eq_false h1]; rfl)
    go_enter Tryd.func36, Tryd.ntmps36
    go_wp2_with fail
    go_ret
    exact ⟨by rw [HR.out]; rfl, rfl⟩

theorem RMed.shapes {w : World} {g B : Nat} {F : Nat → Prop} {vs vw vb : Value} {us : List Value} {ws : List (Nat × Value)} {d : Dv.S} (h : RMed w g F B vs vw vb us ws d) : (∃ a c, vs = .slice a d.safe.length c ∧ d.safe.length ≤ c ∧ c ≤ 9223372036854775807) ∧ (∃ a c, vw = .slice a d.wait.length c ∧ d.wait.length ≤ c ∧ c ≤ 9223372036854775807) ∧ ∃ a c, vb = .slice a d.bad.length c ∧ d.bad.length ≤ c ∧ c ≤ 9223372036854775807 := by
  refine ⟨?_, ?_, ?_⟩
  · obtain ⟨a, c, h1, h2, h3⟩ := own_shape h.safe
    rw [h.lus] at h1 h2
    exact ⟨a, c, h1, h2, h3⟩
  · obtain ⟨a, c, h1, h2, h3⟩ := own_shape h.wait
    rw [h.lws] at h1 h2
    exact ⟨a, c, h1, h2, h3⟩
  · obtain ⟨a, c, h1, h2, h3, _⟩ := h.bad
    exact ⟨a, c, h1, h2, h3⟩

set_option maxHeartbeats 1600000 in
set_option maxRecDepth 100000 in
theorem rcall_w (w : World) (g B : Nat) (F : Nat → Prop) (vs vw vb : Value) (us : List Value) (ws : List (Nat × Value)) (d : Dv.S) (h : RMed w g F B vs vw vb us ws d) (hn : d.n ≤ 1000000) :
    Calls Tryd.prog 37 #[.pointer (some ⟨g, 0, none⟩)] w fun e w' => e = .returned (.int .i64 (Dv.call d).2) ∧ Touch (fun k => k = g) w w' ∧ RMed w' g F B vs vw vb us ws (Dv.call d).1 := by
  have c2 := h.c2
  have c4 := h.c4
  have f2 := h.free 2
  have f4 := h.free 4
  have HH := Lib.hid h
  have LB := h.left
  by_cases h0 : d.left = 0
  · have HE : Hid (Dv.call d = (d, 32)) := Lib.hid (by unfold Dv.call; rw [if_pos h0])
    rw [h0] at c4
    clear h LB
    go_enter Tryd.func37, Tryd.ntmps37
    go_wp2_with fail
    go_ret
    exact ⟨by rw [HE.out]; rfl, Touch.refl _ _, by rw [HE.out]; exact HH.out⟩
  · obtain ⟨er, her⟩ : ∃ er : Bool, d.bad.contains (d.n : Int) = er := ⟨_, rfl⟩
    have HER := Lib.hid her
    have HE : Hid (Dv.call d = ({ d with left := if 0 < d.left then d.left - 1 else d.left, n := d.n + 1 }, if er then 31 else 0)) := Lib.hid (by unfold Dv.call; rw [if_neg h0, her])
    have hn1 : (d.n : Int) ≤ 1000000 := by omega
    have hn0 : (0 : Int) ≤ d.n := by omega
    obtain ⟨N, hN⟩ : ∃ N : Int, N = (d.n : Int) := ⟨_, rfl⟩
    obtain ⟨L2, hL2⟩ : ∃ L2 : Int, L2 = (if 0 < d.left then d.left - 1 else d.left) := ⟨_, rfl⟩
    obtain ⟨av, cv, hvb, hcv, hcv9⟩ := h.shapes.2.2
    have hw9 : IntKind.i64.wrap (N + 1) = N + 1 := by rw [IntKind.wrap_i64]; omega
    have HN := Lib.hid hN
    have HL2 := Lib.hid hL2
    -- the world behind the counting
    have HX : Hid (∀ W : World, Touch (fun k => k = g) w W → W.heap[g]? = some (.cells #[vs, vw, .int .i64 (N + 1), vb, .int .i64 L2] 81 (0, 0)) → RMed W g F B vs vw vb us ws (Dv.call d).1) := Lib.hid (fun W ht hb => by
      rw [HE.out]
      refine HH.out.block (d' := { d with left := if 0 < d.left then d.left - 1 else d.left, n := d.n + 1 }) ?_ ht rfl rfl (HH.out.bad.keep ht.size (fun k hkB hks => ht.block k hks (fun e => by have := HH.out.hB g HH.out.hg; omega))) (by show _ ≤ (if 0 < d.left then d.left - 1 else d.left) ∧ (if 0 < d.left then d.left - 1 else d.left) ≤ _; split <;> omega)
      rw [hb, HN.out, HL2.out]
      rfl)
    subst hvb
    clear her hL2 h
    rw [← hN] at c2 hn1 hn0
    go_enter Tryd.func37, Tryd.ntmps37
    have hne0 : ¬ d.left = 0 := h0
    clear hN
    obtain ⟨l, hl⟩ : ∃ l, l = d.left := ⟨_, rfl⟩
    have HLL := Lib.hid hl
    rw [← hl] at c4 h0 hne0 LB
    clear hl
    go_upto_region 7 with fail
    · have hl9 : 0 < l := by omega
      have hb4 := heap_setCell_same w g 4 _ _ (.int .i64 (l - 1)) HH.out.blk
      have hb := heap_setCell_same _ g 2 _ _ (.int .i64 (N + 1)) hb4
      have ht : Touch (fun k => k = g) w ((w.setCell ⟨g, 4, none⟩ (.int .i64 (l - 1))).setCell ⟨g, 2, none⟩ (.int .i64 (N + 1))) := (Touch.cell (F := fun k => k = g) rfl 4 _).trans (Touch.cell (F := fun k => k = g) rfl 2 _)
      have e2 : L2 = l - 1 := by rw [HL2.out, ← HLL.out]; exact if_pos hl9
      subst e2
      clear hb4
      have hM2 := HX.out _ ht hb
      have hbd := hM2.bad
      have d3 := hM2.c3
      have HT2 := Lib.hid ht
      have HM2 := Lib.hid hM2
      generalize (w.setCell ⟨g, 4, none⟩ (.int .i64 (l - 1))).setCell ⟨g, 2, none⟩ (.int .i64 (N + 1)) = w2 at hM2 hbd d3 HT2 HM2 ⊢
      clear hM2 ht hb c2 c4 f2 f4 hw9 LB HX
      have HBD := Lib.hid hbd
      have hbl : (Dv.call d).1.bad = d.bad := by rw [HE.out]
      rw [hbl] at hbd
      have HBDD := Lib.hid hbd
      obtain ⟨n, hnn⟩ : ∃ n, n = d.bad.length := ⟨_, rfl⟩
      have HNN := Lib.hid hnn
      rw [← hnn] at d3 hcv
      clear hnn hbd hbl HBD
      go_wp2_with fail
      go_loopw [4] (fun i wr => ∃ k : Nat, k ≤ n ∧ i = .int .i64 k ∧ wr = w2 ∧ Hid (∀ j (hj : j < d.bad.length), j < k → d.bad[j] ≠ N)) (fun i _ => n - (intOf i).toNat)
      case atStart => exact ⟨0, Nat.zero_le _, rfl, rfl, Lib.hid (fun j _ h => absurd h (Nat.not_lt_zero j))⟩
      case round =>
        obtain ⟨k, hk, rfl, rfl, HA⟩ := hrel
        by_cases hlt : k < n
        · have hki : (k : Int) < n := by omega
          have hkl : k < d.bad.length := by rw [← HNN.out]; exact hlt
          obtain ⟨ao2, cap2, hv2, _, _, h9⟩ := HBDD.out
          obtain ⟨b, o, hb1, hb2, hb3, hc⟩ := h9.resolve_left (fun e => by rw [e] at hkl; cases hkl)
          rw [hb1] at hv2
          injection hv2 with hv2 _ hv3
          subst hv2 hv3
          have q := hc k hkl
          clear hc h9
          have HQ := Lib.hid (show d.bad[k]? = some d.bad[k] from List.getElem?_eq_getElem hkl)
          have HNX : Hid (d.bad[k] ≠ N → ∀ j (hj : j < d.bad.length), j < k + 1 → d.bad[j] ≠ N) := Lib.hid (fun h j hj hjk => by
            by_cases e : j = k
            · subst e; exact h
            · exact HA.out j hj (by omega))
          have HYS : Hid (d.bad[k] = N → er = true) := Lib.hid (fun h => by
            rw [← HER.out, ← HN.out, ← h]
            exact List.contains_iff_mem.2 (List.getElem_mem hkl))
          generalize d.bad[k] = x at q HNX HYS
          by_cases hx : x = N
          · have HY := HYS.out hx
            have HZ := Lib.hid HY
            subst hx
            clear HYS HNX HY
            go_wp2_with fail
            go_ret
            exact ⟨by rw [HE.out, HZ.out]; rfl, HT2.out, HM2.out⟩
          · have hxb : (x == N) = false := beq_eq_false_iff_ne.2 hx
            have HZ := Lib.hid (HNX.out hx)
            clear HYS HNX
            go_wp2_with fail
            go_roundw
            case rel => exact ⟨k + 1, by omega, by go_num, trivial, HZ⟩
            case measure => simp [intOf]; omega
        · have hki : ¬ (k : Int) < n := by omega
          have HZ : Hid (er = false) := Lib.hid (by
            rw [← HER.out, ← HN.out, ← Bool.not_eq_true, List.contains_iff_mem]
            intro hm
            obtain ⟨j, hj, hj2⟩ := List.getElem_of_mem hm
            exact HA.out j hj (by have := HNN.out; omega) hj2)
          clear hlt hk
          go_wp2_with fail
          go_ret
          exact ⟨by rw [HE.out, HZ.out]; rfl, HT2.out, HM2.out⟩
    · have hl9 : ¬ 0 < l := by omega
      have hb := heap_setCell_same w g 2 _ _ (.int .i64 (N + 1)) HH.out.blk
      have ht : Touch (fun k => k = g) w (w.setCell ⟨g, 2, none⟩ (.int .i64 (N + 1))) := Touch.cell (F := fun k => k = g) rfl 2 _
      have e2 : L2 = l := by rw [HL2.out, ← HLL.out]; exact if_neg hl9
      subst e2
      rw [← HLL.out] at hb
      have hM2 := HX.out _ ht hb
      have hbd := hM2.bad
      have d3 := hM2.c3
      have HT2 := Lib.hid ht
      have HM2 := Lib.hid hM2
      generalize w.setCell ⟨g, 2, none⟩ (.int .i64 (N + 1)) = w2 at hM2 hbd d3 HT2 HM2 ⊢
      clear hM2 ht hb c2 c4 f2 f4 hw9 LB HX
      have HBD := Lib.hid hbd
      have hbl : (Dv.call d).1.bad = d.bad := by rw [HE.out]
      rw [hbl] at hbd
      have HBDD := Lib.hid hbd
      obtain ⟨n, hnn⟩ : ∃ n, n = d.bad.length := ⟨_, rfl⟩
      have HNN := Lib.hid hnn
      rw [← hnn] at d3 hcv
      clear hnn hbd hbl HBD
      go_wp2_with fail
      go_loopw [4] (fun i wr => ∃ k : Nat, k ≤ n ∧ i = .int .i64 k ∧ wr = w2 ∧ Hid (∀ j (hj : j < d.bad.length), j < k → d.bad[j] ≠ N)) (fun i _ => n - (intOf i).toNat)
      case atStart => exact ⟨0, Nat.zero_le _, rfl, rfl, Lib.hid (fun j _ h => absurd h (Nat.not_lt_zero j))⟩
      case round =>
        obtain ⟨k, hk, rfl, rfl, HA⟩ := hrel
        by_cases hlt : k < n
        · have hki : (k : Int) < n := by omega
          have hkl : k < d.bad.length := by rw [← HNN.out]; exact hlt
          obtain ⟨ao2, cap2, hv2, _, _, h9⟩ := HBDD.out
          obtain ⟨b, o, hb1, hb2, hb3, hc⟩ := h9.resolve_left (fun e => by rw [e] at hkl; cases hkl)
          rw [hb1] at hv2
          injection hv2 with hv2 _ hv3
          subst hv2 hv3
          have q := hc k hkl
          clear hc h9
          have HQ := Lib.hid (show d.bad[k]? = some d.bad[k] from List.getElem?_eq_getElem hkl)
          have HNX : Hid (d.bad[k] ≠ N → ∀ j (hj : j < d.bad.length), j < k + 1 → d.bad[j] ≠ N) := Lib.hid (fun h j hj hjk => by
            by_cases e : j = k
            · subst e; exact h
            · exact HA.out j hj (by omega))
          have HYS : Hid (d.bad[k] = N → er = true) := Lib.hid (fun h => by
            rw [← HER.out, ← HN.out, ← h]
            exact List.contains_iff_mem.2 (List.getElem_mem hkl))
          generalize d.bad[k] = x at q HNX HYS
          by_cases hx : x = N
          · have HY := HYS.out hx
            have HZ := Lib.hid HY
            subst hx
            clear HYS HNX HY
            go_wp2_with fail
            go_ret
            exact ⟨by rw [HE.out, HZ.out]; rfl, HT2.out, HM2.out⟩
          · have hxb : (x == N) = false := beq_eq_false_iff_ne.2 hx
            have HZ := Lib.hid (HNX.out hx)
            clear HYS HNX
            go_wp2_with fail
            go_roundw
            case rel => exact ⟨k + 1, by omega, by go_num, trivial, HZ⟩
            case measure => simp [intOf]; omega
        · have hki : ¬ (k : Int) < n := by omega
          have HZ : Hid (er = false) := Lib.hid (by
            rw [← HER.out, ← HN.out, ← Bool.not_eq_true, List.contains_iff_mem]
            intro hm
            obtain ⟨j, hj, hj2⟩ := List.getElem_of_mem hm
            exact HA.out j hj (by have := HNN.out; omega) hj2)
          clear hlt hk
          go_wp2_with fail
          go_ret
          exact ⟨by rw [HE.out, HZ.out]; rfl, HT2.out, HM2.out⟩
end Go.Proofs.YtlipgphmhkjnpaaDoor
