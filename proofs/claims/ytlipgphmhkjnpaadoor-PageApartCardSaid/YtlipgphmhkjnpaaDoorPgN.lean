/- The program's device and the document's, side by side. -/
import Derived.Test.YtlipgphmhkjnpaaDoorPgP
import Derived.Test.YtlipgphmhkjnpaaDoorPgD8
namespace Dv
/-- What a device grows by, act by act. -/
def Small (k : Nat) (d : S) : Prop := d.n ≤ k ∧ d.wait.length ≤ 8 * k ∧ d.safe.length ≤ 40 ∧ d.bad.length ≤ 20
theorem Small.up {k m : Nat} {d : S} (h : Small k d) (hm : k ≤ m) : Small m d := ⟨by have := h.1; omega, by have := h.2.1; omega, h.2.2⟩
theorem small_init (n : Nat) (hn : n ≤ 40) : Small 0 (init n) := ⟨Nat.le_refl _, Nat.le_refl _, by unfold init; simpa using hn, Nat.zero_le _⟩
theorem call_sizes (d : S) : (call d).1.n ≤ d.n + 1 ∧ (call d).1.wait = d.wait ∧ (call d).1.safe = d.safe ∧ (call d).1.bad = d.bad := by
  unfold call
  split
  · exact ⟨Nat.le_succ _, rfl, rfl, rfl⟩
  · exact ⟨Nat.le_refl _, rfl, rfl, rfl⟩
theorem small_write {k : Nat} {d : S} (h : Small k d) (at_ : Int) (l : List Sec) (hl : l.length ≤ 8) : Small (k + 1) (write d at_ l).1 := by
  obtain ⟨h1, h2, h3, h4⟩ := h
  obtain ⟨c1, c2, c3, c4⟩ := call_sizes d
  unfold write
  split
  · exact Small.up (k := k) ⟨h1, h2, h3, h4⟩ (by omega)
  · split
    · exact ⟨by omega, by rw [c2]; omega, by rw [c3]; exact h3, by rw [c4]; exact h4⟩
    · exact ⟨by show (call d).1.n ≤ _; omega, by show (_ ++ _ : List (Nat × Sec)).length ≤ _; rw [List.length_append, lay_length]; omega, by show (call d).1.safe.length ≤ _; rw [c3]; exact h3, by show (call d).1.bad.length ≤ _; rw [c4]; exact h4⟩
theorem small_flush {k : Nat} {d : S} (h : Small k d) : Small (k + 1) (flush d).1 := by
  obtain ⟨h1, h2, h3, h4⟩ := h
  obtain ⟨c1, c2, c3, c4⟩ := call_sizes d
  unfold flush
  split
  · exact ⟨by omega, by rw [c2]; omega, by rw [c3]; exact h3, by rw [c4]; exact h4⟩
  · exact ⟨by show (call d).1.n ≤ _; omega, Nat.zero_le _, by show (d.wait.foldl done d.safe).length ≤ _; rw [done_length]; exact h3, by show (call d).1.bad.length ≤ _; rw [c4]; exact h4⟩
theorem small_read {k : Nat} {d : S} (h : Small k d) (at_ m : Int) : Small (k + 1) (read d at_ m).1 := by
  obtain ⟨h1, h2, h3, h4⟩ := h
  obtain ⟨c1, c2, c3, c4⟩ := call_sizes d
  unfold read
  split
  · exact Small.up (k := k) ⟨h1, h2, h3, h4⟩ (by omega)
  · split
    · exact ⟨by show (call d).1.n ≤ _; omega, by show (call d).1.wait.length ≤ _; rw [c2]; omega, by show (call d).1.safe.length ≤ _; rw [c3]; exact h3, by show (call d).1.bad.length ≤ _; rw [c4]; exact h4⟩
    · exact ⟨by show (call d).1.n ≤ _; omega, by show (call d).1.wait.length ≤ _; rw [c2]; omega, by show (call d).1.safe.length ≤ _; rw [c3]; exact h3, by show (call d).1.bad.length ≤ _; rw [c4]; exact h4⟩
theorem small_fail {k : Nat} {d : S} (h : Small k d) (l : List Int) (hl : l.length ≤ 20) : Small (k + 1) (fail d l) := ⟨Nat.zero_le _, by show d.wait.length ≤ _; have := h.2.1; omega, h.2.2.1, hl⟩
theorem small_crash {k : Nat} {d : S} (h : Small k d) (keep : List Bool) (torn p : Int) : Small (k + 1) (crash d keep torn p) := ⟨Nat.zero_le _, Nat.zero_le _, by show (left_ keep torn p 0 d.wait d.safe).length ≤ _; rw [left_length]; exact h.2.2.1, Nat.zero_le _⟩
end Dv
namespace Pg
theorem small_write {k : Nat} {d : Dv.S} (h : Dv.Small k d) (at_ m : Int) (b : L) : Dv.Small (k + 1) (write d at_ m b).1 := by
  unfold write
  split
  · exact h.up (by omega)
  · rename_i h9
    exact Dv.small_write h at_ _ (by
      have := pack_len (k := m) (b := b) (Classical.not_not.1 h9)
      rw [(sectors_512 this).1]; exact Nat.le_refl _)
theorem read_fst (d : Dv.S) (at_ : Int) : (read d at_).1 = (Dv.read d at_ 8).1 := by
  unfold read told
  split
  · rfl
  · split <;> rfl
end Pg
namespace Go.Proofs.YtlipgphmhkjnpaaDoor
open Go.RowKit
theorem small_fair {k : Nat} {d : Dv.S} (h : Dv.Small k d) (hk : k ≤ 1000) : Fair d := ⟨by have := h.1; omega, by have := h.2.1; omega, by have := h.2.2.1; omega, by have := h.2.2.2; omega⟩

theorem RMed.cut {w : World} {g B : Nat} {F : Nat → Prop} {vs vw vb : Value} {us : List Value} {ws : List (Nat × Value)} {d : Dv.S} (h : RMed w g F B vs vw vb us ws d) : RMed w g (fun k => F k ∧ k < w.heap.size) B vs vw vb us ws d := by
  have ho : ∀ v l, OIn F w v l → OIn (fun k => F k ∧ k < w.heap.size) w v l := fun v l ho => by
    obtain ⟨b, o, cap, C, fr, h1, h2, h3, h4, h5, h6⟩ := ho
    exact ⟨b, o, cap, C, fr, h1, h2, h3, ⟨h4, lt_of_block h5⟩, h5, h6⟩
  exact ⟨h.blk, h.safe, h.wait, h.lus, h.lws, fun j h1 h2 => ho _ _ (h.sec j h1 h2), fun j h1 h2 => ⟨(h.wts j h1 h2).1, ho _ _ (h.wts j h1 h2).2⟩, h.bad, ⟨h.hg, lt_of_block h.blk⟩, fun k hk => ⟨h.hs k hk, (World.ownsRow.lt h.safe k hk).2⟩, fun k hk => ⟨h.hw k hk, (World.ownsRow.lt h.wait k hk).2⟩, h.le, h.gS, h.gW, fun k hk => h.hB k hk.1, h.left⟩

/-- The document's device at block g is d, and all of it lies in F's blocks, none of them below B. -/
def RDev (B : Nat) (w : World) (g : Nat) (d : Dv.S) (F : Nat → Prop) : Prop := (∀ k, F k → k < w.heap.size) ∧ (∀ k, F k → B ≤ k) ∧ ∃ vs vw vb us ws, RMed w g F B vs vw vb us ws d
section
variable {B g : Nat} {w w' : World} {d : Dv.S} {F : Nat → Prop}
theorem RDev.of {vs vw vb : Value} {us : List Value} {ws : List (Nat × Value)} (h : RMed w' g (fun k => F k ∨ w.heap.size ≤ k) B vs vw vb us ws d) : ∃ F', RDev B w' g d F' ∧ More F F' w := by
  refine ⟨fun k => (F k ∨ w.heap.size ≤ k) ∧ k < w'.heap.size, ⟨fun k hk => hk.2, fun k hk => h.hB k hk.1, _, _, _, _, _, h.cut⟩, fun k hk => hk.1⟩
theorem RDev.keep (h : RDev B w g d F) (hs : w.heap.size ≤ w'.heap.size) (hk : ∀ k, k < w.heap.size → F k ∨ k < B → w'.heap[k]? = w.heap[k]?) : RDev B w' g d F := by
  obtain ⟨h1, h2, vs, vw, vb, us, ws, h⟩ := h
  exact ⟨fun k hf => Nat.lt_of_lt_of_le (h1 k hf) hs, h2, vs, vw, vb, us, ws, h.keep hs hk⟩
theorem rd_new (n B : Nat) (w : World) (hn : n ≤ 65536) (hB : B ≤ w.heap.size) :
    Calls Tryd.prog 14 #[.int .i64 (n : Int)] w fun e w' => ∃ g F, e = .returned (.pointer (some ⟨g, 0, none⟩)) ∧ Below w.heap.size w w' ∧ RDev B w' g (Dv.init n) F ∧ ∀ k, F k → w.heap.size ≤ k :=
  (rnew_w n B w hn hB).mono (by
    rintro e w' ⟨g, h1, h2, vs, us, h3⟩
    exact ⟨g, fun k => w.heap.size ≤ k ∧ k < w'.heap.size, h1, h2, ⟨fun k hk => hk.2, fun k hk => h3.hB k hk.1, _, _, _, _, _, h3.cut⟩, fun k hk => hk.1⟩)
theorem Touch.old {F : Nat → Prop} {w w' : World} (h : Touch (fun k => F k ∨ w.heap.size ≤ k) w w') : Touch F w w' :=
  ⟨h.os, h.tape, h.output, h.size, fun k hk hn => h.block k hk (fun h9 => by rcases h9 with h9 | h9; exact hn h9; omega)⟩
theorem rd_write (h : RDev B w g d F) (hf : Fair d) (at_ : Int) (v : Value) (ls : List Dv.Sec) (hv : BsOut F w v ls) (hl : ls.length ≤ 1000) (ha : -9223372036854775808 ≤ at_ ∧ at_ ≤ 9223372036854775807) :
    Calls Tryd.prog 15 #[.pointer (some ⟨g, 0, none⟩), .int .i64 at_, v] w fun e w' => ∃ F', e = .returned (.int .i64 (Dv.write d at_ ls).2) ∧ RDev B w' g (Dv.write d at_ ls).1 F' ∧ Touch F w w' ∧ More F F' w := by
  obtain ⟨h1, h2, vs, vw, vb, us, ws, h⟩ := h
  refine (rwrite_w w g B F vs vw vb us ws d h hf.1 hf.2.1 at_ v ls hv hl ha).mono ?_
  rintro e w' ⟨he, ht, vw', ws', hM⟩
  obtain ⟨F', h3, h4⟩ := RDev.of hM
  exact ⟨F', he, h3, ht.old, h4⟩
theorem rd_flush (h : RDev B w g d F) (hf : Fair d) :
    Calls Tryd.prog 22 #[.pointer (some ⟨g, 0, none⟩)] w fun e w' => ∃ F', e = .returned (.int .i64 (Dv.flush d).2) ∧ RDev B w' g (Dv.flush d).1 F' ∧ Touch F w w' ∧ More F F' w := by
  obtain ⟨h1, h2, vs, vw, vb, us, ws, h⟩ := h
  refine (rflush_w w g B F vs vw vb us ws d h hf.1 hf.2.1).mono ?_
  rintro e w' ⟨he, ht, vw', us', ws', hM⟩
  exact ⟨F, he, ⟨fun k hk => Nat.lt_of_lt_of_le (h1 k hk) ht.size, h2, _, _, _, _, _, hM⟩, ht, fun k hk => .inl hk⟩
theorem RMed.beside {vs vw vb : Value} {us : List Value} {ws : List (Nat × Value)} (h : RMed w g F B vs vw vb us ws d) (ht : Touch (fun k => k = g) w w') {u : Value} {c : List UInt8} (hu : BIn w u c) : BIn w' u c := by
  obtain ⟨ao, cap, hv, h1, h2, h3⟩ := hu
  refine ⟨ao, cap, hv, h1, h2, ?_⟩
  rcases h3 with h3 | ⟨b, o, e, hb, hc⟩
  · exact .inl h3
  · by_cases hl : c = []
    · exact .inl hl
    · have hbg : b ≠ g := fun e9 => by
        subst e9
        have h0 := hc 0 (List.length_pos_iff.2 hl)
        obtain ⟨_, _, hvs, _⟩ := own_shape h.safe
        obtain ⟨_, _, hvw, _⟩ := own_shape h.wait
        obtain ⟨_, _, hvb, _⟩ := h.bad
        simp only [World.cell?, h.blk, hvs, hvw, hvb, Nat.add_zero] at h0
        match o, h0 with
        | 0, h0 => simp at h0
        | 1, h0 => simp at h0
        | 2, h0 => simp at h0
        | 3, h0 => simp at h0
        | 4, h0 => simp at h0
        | n + 5, h0 => simp at h0
      exact .inr ⟨b, o, e, Nat.lt_of_lt_of_le hb ht.size, fun j hj => by rw [World.cell?_of_block (a := ⟨b, o + j, none⟩) (ht.block b hb hbg)]; exact hc j hj⟩
theorem rd_read (h : RDev B w g d F) (hf : Fair d) (at_ k : Int) (ha : -9223372036854775808 ≤ at_ ∧ at_ ≤ 9223372036854775807) (hk : -9223372036854775808 ≤ k ∧ k ≤ 9223372036854775807) :
    Calls Tryd.prog 19 #[.pointer (some ⟨g, 0, none⟩), .int .i64 at_, .int .i64 k] w fun e w' => ∃ v F', e = .returned (.tuple #[v, .int .i64 (Dv.read d at_ k).2.2]) ∧ BsIn w' v (Dv.read d at_ k).2.1 ∧ RDev B w' g (Dv.read d at_ k).1 F' ∧ Touch F w w' ∧ More F F' w ∧ ∀ u c, BIn w u c → BIn w' u c := by
  obtain ⟨h1, h2, vs, vw, vb, us, ws, h⟩ := h
  refine (rread_w w g B F vs vw vb us ws d h hf.1 hf.2.1 at_ k ha hk).mono ?_
  rintro e w' ⟨v, he, hv, ht, hM⟩
  have ht2 : Touch F w w' := ht.mono (fun k _ hk => by rw [hk]; exact h.hg)
  exact ⟨v, F, he, hv, ⟨fun k hk => Nat.lt_of_lt_of_le (h1 k hk) ht.size, h2, _, _, _, _, _, hM⟩, ht2, fun k hk => .inl hk, fun u c hu => h.beside ht hu⟩
theorem rd_fail (h : RDev B w g d F) (v : Value) (l : List Int) (hv : IBad B w v l) :
    Calls Tryd.prog 24 #[.pointer (some ⟨g, 0, none⟩), v] w fun e w' => ∃ F', e = .returned (.tuple #[]) ∧ RDev B w' g (Dv.fail d l) F' ∧ Touch F w w' ∧ More F F' w := by
  obtain ⟨h1, h2, vs, vw, vb, us, ws, h⟩ := h
  refine (rfail_w w g B F vs vw vb us ws d h v l hv).mono ?_
  rintro e w' ⟨he, ht, hM⟩
  exact ⟨F, he, ⟨fun k hk => Nat.lt_of_lt_of_le (h1 k hk) ht.size, h2, _, _, _, _, _, hM⟩, ht.mono (fun k _ hk => by rw [hk]; exact h.hg), fun k hk => .inl hk⟩
theorem rd_crash (h : RDev B w g d F) (hf : Fair d) (v : Value) (keep : List Bool) (torn pp : Int) (hv : KIn F w v keep) :
    Calls Tryd.prog 26 #[.pointer (some ⟨g, 0, none⟩), mkCrash v torn pp] w fun e w' => ∃ F', e = .returned (.tuple #[]) ∧ RDev B w' g (Dv.crash d keep torn pp) F' ∧ Touch F w w' ∧ More F F' w := by
  obtain ⟨h1, h2, vs, vw, vb, us, ws, h⟩ := h
  refine (rcrash_w w g B F vs vw vb us ws d h hf.2.1 v keep torn pp hv).mono ?_
  rintro e w' ⟨he, ht, us', hM⟩
  obtain ⟨F', h3, h4⟩ := RDev.of hM
  exact ⟨F', he, h3, ht.old, h4⟩
end
end Go.Proofs.YtlipgphmhkjnpaaDoor
