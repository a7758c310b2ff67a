/- Package control in memory: what is said, as a value and as a block. -/
import Derived.Test.YtolhhejhjjiefaaDoorOctBase
import Derived.Test.YtolhhejhjjiefaaDoorCtMathB
import Derived.Test.YtolhhejhjjiefaaDoorQuiet
import Derived.Deep.RegionWith
namespace Go.Proofs.YtolhhejhjjiefaaDoor
open Go.RowKit

def ccells (c : Ctl.C) : Array Value := #[.bool c.ns, .bool c.nc, .bool c.pu, .bool c.pr, .bool c.mu, .bool c.px, .bool c.oi, .int .i64 c.ma, .int .i64 c.sa, .int .i64 c.ms, .int .i64 c.mf]
def cval (c : Ctl.C) : Value := .agg (ccells c)
/-- The block g holds what is said. -/
def CAt (w : World) (g : Nat) (c : Ctl.C) : Prop := w.heap[g]? = some (.cells (ccells c) 25 (0, 0))

theorem ccells_size (c : Ctl.C) : (ccells c).size = 11 := rfl
theorem CAt.lt {w : World} {g : Nat} {c : Ctl.C} (h : CAt w g c) : g < w.heap.size := lt_of_block h
theorem CAt.later {w w' : World} {g : Nat} {c : Ctl.C} (h : CAt w g c) (hb : Below w.heap.size w w') : CAt w' g c := by
  unfold CAt; rw [hb.block g h.lt]; exact h
theorem CAt.cell {w : World} {g : Nat} {c : Ctl.C} (h : CAt w g c) (k : Nat) : w.cell? ⟨g, k, none⟩ = (ccells c)[k]? := by
  simp only [World.cell?, CAt] at *; rw [h]; rfl
theorem CAt.free {w : World} {g : Nat} {c : Ctl.C} (h : CAt w g c) (k : Nat) : w.frozen? ⟨g, k, none⟩ = false := by
  simp only [World.frozen?, CAt] at *; rw [h]; simp
/-- All cells of a block. -/
theorem CAt.cells {w : World} {g : Nat} {c : Ctl.C} (h : CAt w g c) :
    w.cell? ⟨g, 0, none⟩ = some (.bool c.ns) ∧ w.cell? ⟨g, 1, none⟩ = some (.bool c.nc) ∧ w.cell? ⟨g, 2, none⟩ = some (.bool c.pu) ∧ w.cell? ⟨g, 3, none⟩ = some (.bool c.pr) ∧ w.cell? ⟨g, 4, none⟩ = some (.bool c.mu) ∧ w.cell? ⟨g, 5, none⟩ = some (.bool c.px) ∧ w.cell? ⟨g, 6, none⟩ = some (.bool c.oi) ∧ w.cell? ⟨g, 7, none⟩ = some (.int .i64 c.ma) ∧ w.cell? ⟨g, 8, none⟩ = some (.int .i64 c.sa) ∧ w.cell? ⟨g, 9, none⟩ = some (.int .i64 c.ms) ∧ w.cell? ⟨g, 10, none⟩ = some (.int .i64 c.mf) :=
  ⟨h.cell 0, h.cell 1, h.cell 2, h.cell 3, h.cell 4, h.cell 5, h.cell 6, h.cell 7, h.cell 8, h.cell 9, h.cell 10⟩
theorem CAt.put {w : World} {g : Nat} {c d : Ctl.C} (h : CAt w g c) (k : Nat) (v : Value) (hd : (ccells c).setIfInBounds k v = ccells d) : CAt (w.setCell ⟨g, k, none⟩ v) g d := by
  unfold CAt at *
  rw [← hd]
  simp [World.setCell, Array.getElem?_modify, h]

set_option maxHeartbeats 1600000 in
set_option maxRecDepth 100000 in
theorem None_w (w : World) :
    Calls Tryd.prog 11 #[] w fun e w' => e = .returned (cval Ctl.none0) ∧ Below w.heap.size w w' := by
  go_enter Tryd.func11, Tryd.ntmps11
  go_wp2_with fail
  (try simp only [Exit.inBlock, Exit.then])
  refine bodyPost_ret (v := cval Ctl.none0) (results_cell_row rfl _ _ w.heap.size _ _ (0, 0) _ rfl (heap_alloc_new w _) Tryd.underlying25 rfl (by kernel_rfl)) rfl ?_
  exact ⟨rfl, (Below.refl _ w).alloc (Nat.le_refl _) _⟩

/-- 'first': a number where none was said yet. -/
theorem first_w (g k : Nat) (p n : Int) (w : World) (hc : w.cell? ⟨g, k, none⟩ = some (.int .i64 p)) (hf : w.frozen? ⟨g, k, none⟩ = false) :
    Calls Tryd.prog 38 #[.pointer (some ⟨g, k, none⟩), .int .i64 n] w fun e w' => e = .returned (.tuple #[]) ∧ w' = if p < 0 then w.setCell ⟨g, k, none⟩ (.int .i64 n) else w := by
  by_cases hp : p < 0
  · rw [if_pos hp]
    go_enter Tryd.func38, Tryd.ntmps38
    go_wp2_with fail
    go_end0
    exact ⟨rfl, rfl⟩
  · rw [if_neg hp]
    go_enter Tryd.func38, Tryd.ntmps38
    go_wp2_with fail
    go_end0
    exact ⟨rfl, rfl⟩

theorem Apart.put {w w' : World} {g : Nat} (h : Apart w w' g g) (k : Nat) (v : Value) : Apart w (w'.setCell ⟨g, k, none⟩ v) g g := by
  refine ⟨h.1, h.2.1, h.2.2.1, by simp [h.2.2.2.1], fun j h1 h2 => ?_⟩
  rw [Below.heap_setCell _ _ _ _ (by simpa using h1)]
  exact h.2.2.2.2 j h1 h2
theorem Apart.first {w : World} {g k : Nat} {p n : Int} : Apart w (if p < 0 then w.setCell ⟨g, k, none⟩ (.int .i64 n) else w) g g := by
  split
  · exact (Apart.refl w g g).put k _
  · exact Apart.refl w g g
theorem CAt.first {w : World} {g k : Nat} {c d : Ctl.C} {p n : Int} (h : CAt w g c) (h0 : (ccells c)[k]? = some (.int .i64 p)) (hd : (ccells c).setIfInBounds k (.int .i64 (Ctl.first p n)) = ccells d) : CAt (if p < 0 then w.setCell ⟨g, k, none⟩ (.int .i64 n) else w) g d := by
  unfold Ctl.first at hd
  by_cases hp : p < 0
  · rw [if_pos hp] at hd ⊢; exact h.put k _ hd
  · rw [if_neg hp] at hd ⊢
    have : (ccells c).setIfInBounds k (.int .i64 p) = ccells c := by
      apply Array.ext_getElem?
      intro i
      rw [Array.getElem?_setIfInBounds]
      split
      · rename_i e; subst e
        rw [h0]; split <;> first | rfl | (rename_i hk; rw [Array.getElem?_eq_none (by omega)] at h0; cases h0)
      · rfl
    rw [this] at hd
    unfold CAt; rw [← hd]; exact h

set_option maxHeartbeats 1600000 in
set_option maxRecDepth 100000 in
theorem say_ns_w (c : Ctl.C) (n : Int) (g : Nat) (w : World) (h : CAt w g c) :
    Calls Tryd.prog 21 #[.pointer (some ⟨g, 0, none⟩), .string (str Ctl.kNS), .int .i64 n] w fun e w' => e = .returned (.tuple #[]) ∧ CAt w' g (Ctl.say c Ctl.kNS n) ∧ Apart w w' g g := by
  have hc := h.cell 0
  have hf := h.free 0
  have HP := Lib.hid (h.put 0 (.bool true) (d := Ctl.say c Ctl.kNS n) (by rw [Ctl.say_ns]; rfl))
  rw [show (ccells c)[0]? = some (.bool c.ns) from rfl] at hc
  rw [show str Ctl.kNS = ⟨#[110, 111, 45, 115, 116, 111, 114, 101]⟩ from rfl]
  clear h
  go_enter Tryd.func21, Tryd.ntmps21
  go_wp2_with fail
  go_end0
  exact ⟨rfl, HP.out, (Apart.refl w g g).put 0 _⟩
set_option maxHeartbeats 1600000 in
set_option maxRecDepth 100000 in
theorem say_nc_w (c : Ctl.C) (n : Int) (g : Nat) (w : World) (h : CAt w g c) :
    Calls Tryd.prog 21 #[.pointer (some ⟨g, 0, none⟩), .string (str Ctl.kNC), .int .i64 n] w fun e w' => e = .returned (.tuple #[]) ∧ CAt w' g (Ctl.say c Ctl.kNC n) ∧ Apart w w' g g := by
  have hc := h.cell 1
  have hf := h.free 1
  have HP := Lib.hid (h.put 1 (.bool true) (d := Ctl.say c Ctl.kNC n) (by rw [Ctl.say_nc]; rfl))
  rw [show (ccells c)[1]? = some (.bool c.nc) from rfl] at hc
  rw [show str Ctl.kNC = ⟨#[110, 111, 45, 99, 97, 99, 104, 101]⟩ from rfl]
  clear h
  go_enter Tryd.func21, Tryd.ntmps21
  go_wp2_with fail
  go_end0
  exact ⟨rfl, HP.out, (Apart.refl w g g).put 1 _⟩
set_option maxHeartbeats 1600000 in
set_option maxRecDepth 100000 in
theorem say_pu_w (c : Ctl.C) (n : Int) (g : Nat) (w : World) (h : CAt w g c) :
    Calls Tryd.prog 21 #[.pointer (some ⟨g, 0, none⟩), .string (str Ctl.kPU), .int .i64 n] w fun e w' => e = .returned (.tuple #[]) ∧ CAt w' g (Ctl.say c Ctl.kPU n) ∧ Apart w w' g g := by
  have hc := h.cell 2
  have hf := h.free 2
  have HP := Lib.hid (h.put 2 (.bool true) (d := Ctl.say c Ctl.kPU n) (by rw [Ctl.say_pu]; rfl))
  rw [show (ccells c)[2]? = some (.bool c.pu) from rfl] at hc
  rw [show str Ctl.kPU = ⟨#[112, 117, 98, 108, 105, 99]⟩ from rfl]
  clear h
  go_enter Tryd.func21, Tryd.ntmps21
  go_wp2_with fail
  go_end0
  exact ⟨rfl, HP.out, (Apart.refl w g g).put 2 _⟩
set_option maxHeartbeats 1600000 in
set_option maxRecDepth 100000 in
theorem say_pr_w (c : Ctl.C) (n : Int) (g : Nat) (w : World) (h : CAt w g c) :
    Calls Tryd.prog 21 #[.pointer (some ⟨g, 0, none⟩), .string (str Ctl.kPR), .int .i64 n] w fun e w' => e = .returned (.tuple #[]) ∧ CAt w' g (Ctl.say c Ctl.kPR n) ∧ Apart w w' g g := by
  have hc := h.cell 3
  have hf := h.free 3
  have HP := Lib.hid (h.put 3 (.bool true) (d := Ctl.say c Ctl.kPR n) (by rw [Ctl.say_pr]; rfl))
  rw [show (ccells c)[3]? = some (.bool c.pr) from rfl] at hc
  rw [show str Ctl.kPR = ⟨#[112, 114, 105, 118, 97, 116, 101]⟩ from rfl]
  clear h
  go_enter Tryd.func21, Tryd.ntmps21
  go_wp2_with fail
  go_end0
  exact ⟨rfl, HP.out, (Apart.refl w g g).put 3 _⟩
set_option maxHeartbeats 1600000 in
set_option maxRecDepth 100000 in
theorem say_mu_w (c : Ctl.C) (n : Int) (g : Nat) (w : World) (h : CAt w g c) :
    Calls Tryd.prog 21 #[.pointer (some ⟨g, 0, none⟩), .string (str Ctl.kMU), .int .i64 n] w fun e w' => e = .returned (.tuple #[]) ∧ CAt w' g (Ctl.say c Ctl.kMU n) ∧ Apart w w' g g := by
  have hc := h.cell 4
  have hf := h.free 4
  have HP := Lib.hid (h.put 4 (.bool true) (d := Ctl.say c Ctl.kMU n) (by rw [Ctl.say_mu]; rfl))
  rw [show (ccells c)[4]? = some (.bool c.mu) from rfl] at hc
  rw [show str Ctl.kMU = ⟨#[109, 117, 115, 116, 45, 114, 101, 118, 97, 108, 105, 100, 97, 116, 101]⟩ from rfl]
  clear h
  go_enter Tryd.func21, Tryd.ntmps21
  go_wp2_with fail
  go_end0
  exact ⟨rfl, HP.out, (Apart.refl w g g).put 4 _⟩
set_option maxHeartbeats 1600000 in
set_option maxRecDepth 100000 in
theorem say_px_w (c : Ctl.C) (n : Int) (g : Nat) (w : World) (h : CAt w g c) :
    Calls Tryd.prog 21 #[.pointer (some ⟨g, 0, none⟩), .string (str Ctl.kPX), .int .i64 n] w fun e w' => e = .returned (.tuple #[]) ∧ CAt w' g (Ctl.say c Ctl.kPX n) ∧ Apart w w' g g := by
  have hc := h.cell 5
  have hf := h.free 5
  have HP := Lib.hid (h.put 5 (.bool true) (d := Ctl.say c Ctl.kPX n) (by rw [Ctl.say_px]; rfl))
  rw [show (ccells c)[5]? = some (.bool c.px) from rfl] at hc
  rw [show str Ctl.kPX = ⟨#[112, 114, 111, 120, 121, 45, 114, 101, 118, 97, 108, 105, 100, 97, 116, 101]⟩ from rfl]
  clear h
  go_enter Tryd.func21, Tryd.ntmps21
  go_wp2_with fail
  go_end0
  exact ⟨rfl, HP.out, (Apart.refl w g g).put 5 _⟩
set_option maxHeartbeats 1600000 in
set_option maxRecDepth 100000 in
theorem say_oi_w (c : Ctl.C) (n : Int) (g : Nat) (w : World) (h : CAt w g c) :
    Calls Tryd.prog 21 #[.pointer (some ⟨g, 0, none⟩), .string (str Ctl.kOI), .int .i64 n] w fun e w' => e = .returned (.tuple #[]) ∧ CAt w' g (Ctl.say c Ctl.kOI n) ∧ Apart w w' g g := by
  have hc := h.cell 6
  have hf := h.free 6
  have HP := Lib.hid (h.put 6 (.bool true) (d := Ctl.say c Ctl.kOI n) (by rw [Ctl.say_oi]; rfl))
  rw [show (ccells c)[6]? = some (.bool c.oi) from rfl] at hc
  rw [show str Ctl.kOI = ⟨#[111, 110, 108, 121, 45, 105, 102, 45, 99, 97, 99, 104, 101, 100]⟩ from rfl]
  clear h
  go_enter Tryd.func21, Tryd.ntmps21
  go_wp2_with fail
  go_end0
  exact ⟨rfl, HP.out, (Apart.refl w g g).put 6 _⟩
set_option maxHeartbeats 1600000 in
set_option maxRecDepth 100000 in
theorem say_ma_w (c : Ctl.C) (n : Int) (g : Nat) (w : World) (h : CAt w g c) :
    Calls Tryd.prog 21 #[.pointer (some ⟨g, 0, none⟩), .string (str Ctl.kMA), .int .i64 n] w fun e w' => e = .returned (.tuple #[]) ∧ CAt w' g (Ctl.say c Ctl.kMA n) ∧ Apart w w' g g := by
  have hc := h.cell 7
  have hf := h.free 7
  rw [show (ccells c)[7]? = some (.int .i64 c.ma) from rfl] at hc
  have HP := Lib.hid (h.first (k := 7) (p := c.ma) (n := n) rfl (d := Ctl.say c Ctl.kMA n) (by rw [Ctl.say_ma]; rfl))
  have cF := first_w g 7 c.ma n w hc hf
  rw [show str Ctl.kMA = ⟨#[109, 97, 120, 45, 97, 103, 101]⟩ from rfl]
  clear h hc hf
  go_enter Tryd.func21, Tryd.ntmps21
  go_wp2_with fail
  refine cF.mono ?_
  rintro e w1 ⟨rfl, h1⟩
  have HP1 := HP.out
  have HA := Apart.first (w := w) (g := g) (k := 7) (p := c.ma) (n := n)
  rw [← h1] at HP1 HA
  clear HP h1
  go_wp2_with fail
  go_end0
  exact ⟨rfl, HP1, HA⟩
set_option maxHeartbeats 1600000 in
set_option maxRecDepth 100000 in
theorem say_sa_w (c : Ctl.C) (n : Int) (g : Nat) (w : World) (h : CAt w g c) :
    Calls Tryd.prog 21 #[.pointer (some ⟨g, 0, none⟩), .string (str Ctl.kSA), .int .i64 n] w fun e w' => e = .returned (.tuple #[]) ∧ CAt w' g (Ctl.say c Ctl.kSA n) ∧ Apart w w' g g := by
  have hc := h.cell 8
  have hf := h.free 8
  rw [show (ccells c)[8]? = some (.int .i64 c.sa) from rfl] at hc
  have HP := Lib.hid (h.first (k := 8) (p := c.sa) (n := n) rfl (d := Ctl.say c Ctl.kSA n) (by rw [Ctl.say_sa]; rfl))
  have cF := first_w g 8 c.sa n w hc hf
  rw [show str Ctl.kSA = ⟨#[115, 45, 109, 97, 120, 97, 103, 101]⟩ from rfl]
  clear h hc hf
  go_enter Tryd.func21, Tryd.ntmps21
  go_wp2_with fail
  refine cF.mono ?_
  rintro e w1 ⟨rfl, h1⟩
  have HP1 := HP.out
  have HA := Apart.first (w := w) (g := g) (k := 8) (p := c.sa) (n := n)
  rw [← h1] at HP1 HA
  clear HP h1
  go_wp2_with fail
  go_end0
  exact ⟨rfl, HP1, HA⟩
set_option maxHeartbeats 1600000 in
set_option maxRecDepth 100000 in
theorem say_ms_w (c : Ctl.C) (n : Int) (g : Nat) (w : World) (h : CAt w g c) :
    Calls Tryd.prog 21 #[.pointer (some ⟨g, 0, none⟩), .string (str Ctl.kMS), .int .i64 n] w fun e w' => e = .returned (.tuple #[]) ∧ CAt w' g (Ctl.say c Ctl.kMS n) ∧ Apart w w' g g := by
  have hc := h.cell 9
  have hf := h.free 9
  rw [show (ccells c)[9]? = some (.int .i64 c.ms) from rfl] at hc
  have HP := Lib.hid (h.first (k := 9) (p := c.ms) (n := n) rfl (d := Ctl.say c Ctl.kMS n) (by rw [Ctl.say_ms]; rfl))
  have cF := first_w g 9 c.ms n w hc hf
  rw [show str Ctl.kMS = ⟨#[109, 97, 120, 45, 115, 116, 97, 108, 101]⟩ from rfl]
  clear h hc hf
  go_enter Tryd.func21, Tryd.ntmps21
  go_wp2_with fail
  refine cF.mono ?_
  rintro e w1 ⟨rfl, h1⟩
  have HP1 := HP.out
  have HA := Apart.first (w := w) (g := g) (k := 9) (p := c.ms) (n := n)
  rw [← h1] at HP1 HA
  clear HP h1
  go_wp2_with fail
  go_end0
  exact ⟨rfl, HP1, HA⟩
set_option maxHeartbeats 1600000 in
set_option maxRecDepth 100000 in
theorem say_mf_w (c : Ctl.C) (n : Int) (g : Nat) (w : World) (h : CAt w g c) :
    Calls Tryd.prog 21 #[.pointer (some ⟨g, 0, none⟩), .string (str Ctl.kMF), .int .i64 n] w fun e w' => e = .returned (.tuple #[]) ∧ CAt w' g (Ctl.say c Ctl.kMF n) ∧ Apart w w' g g := by
  have hc := h.cell 10
  have hf := h.free 10
  rw [show (ccells c)[10]? = some (.int .i64 c.mf) from rfl] at hc
  have HP := Lib.hid (h.first (k := 10) (p := c.mf) (n := n) rfl (d := Ctl.say c Ctl.kMF n) (by rw [Ctl.say_mf]; rfl))
  have cF := first_w g 10 c.mf n w hc hf
  rw [show str Ctl.kMF = ⟨#[109, 105, 110, 45, 102, 114, 101, 115, 104]⟩ from rfl]
  clear h hc hf
  go_enter Tryd.func21, Tryd.ntmps21
  go_wp2_with fail
  refine cF.mono ?_
  rintro e w1 ⟨rfl, h1⟩
  have HP1 := HP.out
  have HA := Apart.first (w := w) (g := g) (k := 10) (p := c.mf) (n := n)
  rw [← h1] at HP1 HA
  clear HP h1
  go_wp2_with fail
  go_end0
  exact ⟨rfl, HP1, HA⟩
set_option maxHeartbeats 1600000 in
set_option maxRecDepth 100000 in
theorem say_other_w (nm : List UInt8) (c : Ctl.C) (n : Int) (g : Nat) (w : World) (h : CAt w g c) (hk : nm ∉ Ctl.known) :
    Calls Tryd.prog 21 #[.pointer (some ⟨g, 0, none⟩), .string (str nm), .int .i64 n] w fun e w' => e = .returned (.tuple #[]) ∧ CAt w' g (Ctl.say c nm n) ∧ Apart w w' g g := by
  rw [Ctl.say_not hk]
  obtain ⟨s, hs⟩ : ∃ s, s = str nm := ⟨_, rfl⟩
  have ne : ∀ k, k ∈ Ctl.known → (s.toList == k) = false := fun k hm => by
    rw [hs, str_toList, beq_eq_false_iff_ne.2]; intro e; exact hk (e ▸ hm)
  have eNS : (s.toList == [110, 111, 45, 115, 116, 111, 114, 101]) = false := ne Ctl.kNS (by simp [Ctl.known])
  have eNC : (s.toList == [110, 111, 45, 99, 97, 99, 104, 101]) = false := ne Ctl.kNC (by simp [Ctl.known])
  have ePU : (s.toList == [112, 117, 98, 108, 105, 99]) = false := ne Ctl.kPU (by simp [Ctl.known])
  have ePR : (s.toList == [112, 114, 105, 118, 97, 116, 101]) = false := ne Ctl.kPR (by simp [Ctl.known])
  have eMU : (s.toList == [109, 117, 115, 116, 45, 114, 101, 118, 97, 108, 105, 100, 97, 116, 101]) = false := ne Ctl.kMU (by simp [Ctl.known])
  have ePX : (s.toList == [112, 114, 111, 120, 121, 45, 114, 101, 118, 97, 108, 105, 100, 97, 116, 101]) = false := ne Ctl.kPX (by simp [Ctl.known])
  have eOI : (s.toList == [111, 110, 108, 121, 45, 105, 102, 45, 99, 97, 99, 104, 101, 100]) = false := ne Ctl.kOI (by simp [Ctl.known])
  have eMA : (s.toList == [109, 97, 120, 45, 97, 103, 101]) = false := ne Ctl.kMA (by simp [Ctl.known])
  have eSA : (s.toList == [115, 45, 109, 97, 120, 97, 103, 101]) = false := ne Ctl.kSA (by simp [Ctl.known])
  have eMS : (s.toList == [109, 97, 120, 45, 115, 116, 97, 108, 101]) = false := ne Ctl.kMS (by simp [Ctl.known])
  have eMF : (s.toList == [109, 105, 110, 45, 102, 114, 101, 115, 104]) = false := ne Ctl.kMF (by simp [Ctl.known])
  rw [← hs]
  have HC := Lib.hid h
  clear ne hs hk h
  go_enter Tryd.func21, Tryd.ntmps21
  go_wp2_with fail
  go_end0
  exact ⟨rfl, HC.out, Apart.refl w g g⟩
theorem say_w (nm : List UInt8) (c : Ctl.C) (n : Int) (g : Nat) (w : World) (h : CAt w g c) :
    Calls Tryd.prog 21 #[.pointer (some ⟨g, 0, none⟩), .string (str nm), .int .i64 n] w fun e w' => e = .returned (.tuple #[]) ∧ CAt w' g (Ctl.say c nm n) ∧ Apart w w' g g := by
  by_cases hk : nm ∈ Ctl.known
  · simp only [Ctl.known, List.mem_cons, List.not_mem_nil, or_false] at hk
    rcases hk with rfl | rfl | rfl | rfl | rfl | rfl | rfl | rfl | rfl | rfl | rfl
    · exact say_ns_w c n g w h
    · exact say_nc_w c n g w h
    · exact say_pu_w c n g w h
    · exact say_pr_w c n g w h
    · exact say_mu_w c n g w h
    · exact say_px_w c n g w h
    · exact say_oi_w c n g w h
    · exact say_ma_w c n g w h
    · exact say_sa_w c n g w h
    · exact say_ms_w c n g w h
    · exact say_mf_w c n g w h
  · exact say_other_w nm c n g w h hk
end Go.Proofs.YtolhhejhjjiefaaDoor
