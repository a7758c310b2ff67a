/- What the program's package journal is to answer upon a device whose calls don't fail, in one pack; the laws' filled. -/
import Derived.Test.YtjdmmnpfjbnhoaaJrMathH
import Derived.Test.YtjdmmnpfjbnhoaaDv2
namespace Go.Proofs.Ytjdmmnpfjbnhoaa
open Go.RowKit

/-- v reads as the puts, out of none of F's blocks. -/
def PutsOut (F : Nat → Prop) (w : World) (v : Value) (puts : List Jr.Put) : Prop := ∃ ao cap, v = .slice ao puts.length cap ∧ puts.length ≤ cap ∧ cap ≤ 9223372036854775807 ∧
  (puts = [] ∨ ∃ b o, ao = some ⟨b, o, none⟩ ∧ b < w.heap.size ∧ ¬ F b ∧ ∀ k (hk : k < puts.length), ∃ u, w.cell? ⟨b, o + k * 2, none⟩ = some (.int .i64 (puts[k].1 : Int)) ∧ w.cell? ⟨b, o + k * 2 + 1, none⟩ = some u ∧ BOut F w u puts[k].2)
/-- Sizes in reach. -/
def Fair15 (d : Dv.S) : Prop := Jr.Fl d ∧ d.safe.length ≤ 1000 ∧ d.n ≤ 100000
theorem fair_fl {d : Dv.S} (h : Fair15 d) : Fair d := by
  obtain ⟨⟨⟨h1, _⟩, h2, _⟩, h3, h4⟩ := h
  exact ⟨by omega, by rw [h2]; decide, by omega, by rw [h1]; decide⟩
/-- A device, or a journal upon it, in memory: all of it lies in F's blocks. -/
structure Prog15 (Env : World → Prop) (Dev : World → Nat → Dv.S → (Nat → Prop) → Prop) (JD : World → Nat → Nat → Jr.J → Dv.S → (Nat → Prop) → Prop) : Prop where
  lt : ∀ {w : World} {q g : Nat} {j : Jr.J} {d : Dv.S} {F : Nat → Prop}, JD w q g j d F → ∀ k, F k → k < w.heap.size
  keep : ∀ {w w' : World} {q g : Nat} {j : Jr.J} {d : Dv.S} {F : Nat → Prop}, JD w q g j d F → w.heap.size ≤ w'.heap.size → (∀ k, F k → w'.heap[k]? = w.heap[k]?) → JD w' q g j d F
  dev : ∀ {w : World} {q g : Nat} {j : Jr.J} {d : Dv.S} {F : Nat → Prop}, JD w q g j d F → ∃ F', (∀ k, F' k → F k) ∧ Dev w g d F' ∧ ∀ (w' : World) (d' : Dv.S) (F'' : Nat → Prop), Dev w' g d' F'' → Touch F' w w' → More F' F'' w → JD w' q g j d' (fun k => F k ∨ F'' k)
  format : ∀ (g : Nat) (d : Dv.S) (F : Nat → Prop) (n : Nat) (N : Int) (w : World), Dev w g d F → Fair15 d → 5 ≤ n → n ≤ d.safe.length → N = n → Env w →
    Calls Try.prog 6 #[.pointer (some ⟨g, 0, none⟩), .int .i64 0, .int .i64 N] w fun e w' => ∃ F', e = .returned (.int .i64 (Jr.format d 0 n).2) ∧ Dev w' g (Jr.format d 0 n).1 F' ∧ Touch F w w' ∧ More F F' w
  open_ : ∀ (g : Nat) (d : Dv.S) (F : Nat → Prop) (j : Jr.J) (N : Int) (w : World), Dev w g d F → Fair15 d → (∃ m first at0 ts, Jr.Sits d.safe j m first at0 ts) → j.from_ = 0 → N = j.n → j.owed.length ≤ 1000 → Env w →
    Calls Try.prog 7 #[.pointer (some ⟨g, 0, none⟩), .int .i64 0, .int .i64 N] w fun e w' => ∃ q F', e = .returned (.tuple #[.pointer (some ⟨q, 0, none⟩), .int .i64 (j.cnt : Int), .int .i64 0]) ∧
      JD w' q g (Jr.openS (Jr.sure d d.safe 1) (Jr.opened j.from_ j.n j.mark j.next j.at_ j.owed j.cnt)).2 (Jr.openS (Jr.sure d d.safe 1) (Jr.opened j.from_ j.n j.mark j.next j.at_ j.owed j.cnt)).1 F' ∧ Touch F w w' ∧ More F F' w
  commit : ∀ (q g : Nat) (j : Jr.J) (d : Dv.S) (F : Nat → Prop) (v : Value) (puts : List Jr.Put) (w : World), JD w q g j d F → Fair15 d → (∃ m first at0 ts, Jr.Sits d.safe j m first at0 ts ∧ m + 1 < 1000 ∧ first + ts.length < 1000) → j.owed.length ≤ 1000 → PutsOut F w v puts → Jr.Fit puts d.safe.length j.from_ j.n → puts.length + 4 ≤ j.n → Env w →
    Calls Try.prog 8 #[.pointer (some ⟨q, 0, none⟩), v] w fun e w' => ∃ F', e = .returned (.tuple #[.bool (Jr.commit d j puts).2.2.1, .int .i64 (Jr.commit d j puts).2.2.2]) ∧ JD w' q g (Jr.commit d j puts).2.1 (Jr.commit d j puts).1 F' ∧ Touch F w w' ∧ More F F' w
  number : ∀ (q g : Nat) (j : Jr.J) (d : Dv.S) (F : Nat → Prop) (w : World), JD w q g j d F → -9223372036854775808 ≤ j.next ∧ j.next ≤ 9223372036854775807 → Env w →
    Calls Try.prog 10 #[.pointer (some ⟨q, 0, none⟩)] w fun e w' => e = .returned (.int .i64 j.next) ∧ w = w'

/-- A thing in memory that lies behind what came in, below which nothing has turned. -/
structure Side (W w : World) (T : World → (Nat → Prop) → Prop) (F : Nat → Prop) : Prop where
  thing : T w F
  high : ∀ k, F k → W.heap.size ≤ k
  below : Below W.heap.size W w
theorem More.up {F F' : Nat → Prop} {B : Nat} {w : World} (h : More F F' w) (hF : ∀ k, F k → B ≤ k) (hB : B ≤ w.heap.size) : ∀ k, F' k → B ≤ k := fun k hk => by
  rcases h k hk with h | h
  · exact hF k h
  · omega
theorem Side.step {W w w' : World} {T T' : World → (Nat → Prop) → Prop} {F F' : Nat → Prop} (h : Side W w T F) (hT : T' w' F') (ht : Touch F w w') (hm : More F F' w) : Side W w' T' F' :=
  ⟨hT, hm.up h.high h.below.size, ht.below h.high h.below h.below.size⟩
theorem Side.later {W w w' : World} {T : World → (Nat → Prop) → Prop} {F : Nat → Prop} (h : Side W w T F) (hk : T w F → w.heap.size ≤ w'.heap.size → (∀ k, F k → w'.heap[k]? = w.heap[k]?) → T w' F) (hl : ∀ k, F k → k < w.heap.size) (hb : Below w.heap.size w w') : Side W w' T F :=
  ⟨hk h.thing hb.size (fun k hf => hb.block k (hl k hf)), h.high, bt5 h.below hb⟩
theorem filled_f (c : UInt8) : filled c = Dv.f_ c := rfl
set_option maxHeartbeats 1600000 in
set_option maxRecDepth 100000 in
theorem filled_w (c : UInt8) (w : World) :
    Calls Try.prog 9 #[.int .u8 (c.toNat : Int)] w fun e w' => e = .returned (.slice (some ⟨w.heap.size, 0, none⟩) 64 64) ∧ Blk w' w.heap.size (filled c) ∧ Below w.heap.size w w' := by
  have hmk : ∀ W : World, (Instr.makeSlice 22 (.int .i64 64) (.int .i64 64)).run Try.prog W = .ok (.slice (some ⟨W.heap.size, 0, none⟩) 64 64) (W.alloc (.cells (madeCells #[.int .u8 0] 64) 5)) := fun W => run_make_row' (P := Try.prog) 22 5 (.int .u8 0) 1 Try.underlying22 bytes_info rfl .i64 .i64 64 (by omega) (by omega) W
  have hmade := Blk.made w 64
  rw [← fill_zero (filled c) 64] at hmade
  have hbm : Below w.heap.size w (w.alloc (.cells (madeCells #[.int .u8 0] 64) 5)) := (Below.refl _ w).alloc (Nat.le_refl _) _
  have hD := filled_len c
  have HG : Hid (∀ k (hk : k < 64), (filled c)[k]'(by rw [filled_len]; exact hk) = c) := Lib.hid (fun k hk => List.getElem_replicate _)
  obtain ⟨n, hn⟩ : ∃ n : Int, n = c.toNat := ⟨_, rfl⟩
  have HN := Lib.hid hn
  rw [← hn]
  clear hn
  go_enter Try.func9, Try.ntmps9
  go_upto_region 2 with fail
  obtain ⟨g, hg⟩ : ∃ g, g = w.heap.size := ⟨_, rfl⟩
  have hgw : w.heap.size ≤ g := by rw [hg]; exact Nat.le_refl _
  have HGG := Lib.hid hg
  generalize w.alloc _ = w2 at hmade hbm ⊢
  rw [← hg] at hmade ⊢
  clear hg hmk
  go_upto_region 3 with fail
  go_loopw [4] (fun i wr => ∃ k : Nat, k ≤ 64 ∧ i = .int .i64 k ∧ Blk wr g (fill (filled c) 64 k) ∧ Below w.heap.size w wr) (fun i _ => 64 - (intOf i).toNat)
  case atStart => exact ⟨0, Nat.zero_le _, rfl, hmade, hbm⟩
  case round =>
    obtain ⟨k, hk, rfl, hB, hbr⟩ := hrel
    by_cases hlt : k < 64
    · have hki : (k : Int) < 64 := by omega
      obtain ⟨fd, ff⟩ := hB.cell k (by rw [fill_len hD hk]; exact hlt)
      generalize (fill (filled c) 64 k)[k]'(by rw [fill_len hD hk]; exact hlt) = y at fd
      have hB5 := hB.set k c n HN.out
      have HFS := fill_set hD hlt
      rw [HG.out k hlt] at HFS
      rw [HFS] at hB5
      have hb5 := set_below (k := k) (v := .int .u8 n) hbr hgw
      have HB5 := Lib.hid hB5
      have HBB := Lib.hid hb5
      clear hB hB5 hb5 HFS hbr hmade hbm
      go_wp2_with fail
      go_roundw
      case rel => exact ⟨k + 1, by omega, by go_num, HB5.out, HBB.out⟩
      case measure => simp [intOf]; omega
    · have hki : ¬ (k : Int) < 64 := by omega
      obtain rfl : k = 64 := by omega
      rw [fill_full hD] at hB
      clear hlt hk hmade hbm
      go_wp2_with fail
      go_ret
      obtain rfl := HGG.out
      exact ⟨rfl, hB, hbr⟩
end Go.Proofs.Ytjdmmnpfjbnhoaa
