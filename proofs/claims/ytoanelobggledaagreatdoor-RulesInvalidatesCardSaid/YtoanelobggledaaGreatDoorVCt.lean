/- What lies below, out of the texts of the layers under this one: Ct1, Ct2, Ct3. -/
import Derived.Test.YtoanelobggledaaGreatDoorVDtBase
import Derived.Test.YtoanelobggledaaGreatDoorVFd
import Derived.Deep.CutBlock
import Derived.Deep.DeepCutAuto
namespace Go.Proofs.YtoanelobggledaaGreatDoor
open Go.RowKit

def ccells (c : Ctl.C) : Array Value := #[.bool c.ns, .bool c.nc, .bool c.pu, .bool c.pr, .bool c.mu, .bool c.px, .bool c.oi, .int .i64 c.ma, .int .i64 c.sa, .int .i64 c.ms, .int .i64 c.mf]
def cval (c : Ctl.C) : Value := .agg (ccells c)
def CAt (w : World) (g : Nat) (c : Ctl.C) : Prop := w.heap[g]? = some (.cells (ccells c) 32 (0, 0))
theorem CAt.lt {w : World} {g : Nat} {c : Ctl.C} (h : CAt w g c) : g < w.heap.size := lt_of_block h
theorem CAt.later {w w' : World} {g : Nat} {c : Ctl.C} (h : CAt w g c) (hb : Below w.heap.size w w') : CAt w' g c := by
  unfold CAt; rw [hb.block g h.lt]; exact h
theorem CAt.cell {w : World} {g : Nat} {c : Ctl.C} (h : CAt w g c) (k : Nat) : w.cell? ⟨g, k, none⟩ = (ccells c)[k]? := by
  simp only [World.cell?, CAt] at *; rw [h]; rfl
theorem CAt.free {w : World} {g : Nat} {c : Ctl.C} (h : CAt w g c) (k : Nat) : w.frozen? ⟨g, k, none⟩ = false := by
  simp only [World.frozen?, CAt] at *; rw [h]; simp
theorem CAt.put {w : World} {g : Nat} {c d : Ctl.C} (h : CAt w g c) (k : Nat) (v : Value) (hd : (ccells c).setIfInBounds k v = ccells d) : CAt (w.setCell ⟨g, k, none⟩ v) g d := by
  unfold CAt at *
  rw [← hd]
  simp [World.setCell, Array.getElem?_modify, h]
set_option maxHeartbeats 1600000 in
set_option maxRecDepth 100000 in
theorem None_w (w : World) :
    Calls Tryz.prog 98 #[] w fun e w' => e = .returned (cval Ctl.none0) ∧ Below w.heap.size w w' := by
  go_enter Tryz.func98, Tryz.ntmps98
  go_wp2_with fail
  (try simp only [Exit.inBlock, Exit.then])
  refine bodyPost_ret (v := cval Ctl.none0) (results_cell_row rfl _ _ w.heap.size _ _ (0, 0) _ rfl (heap_alloc_new w _) Tryz.underlying32 rfl (by kernel_rfl)) rfl ?_
  exact ⟨rfl, (Below.refl _ w).alloc (Nat.le_refl _) _⟩
theorem first_w (g k : Nat) (p n : Int) (w : World) (hc : w.cell? ⟨g, k, none⟩ = some (.int .i64 p)) (hf : w.frozen? ⟨g, k, none⟩ = false) :
    Calls Tryz.prog 137 #[.pointer (some ⟨g, k, none⟩), .int .i64 n] w fun e w' => e = .returned (.tuple #[]) ∧ w' = if p < 0 then w.setCell ⟨g, k, none⟩ (.int .i64 n) else w := by
  by_cases hp : p < 0
  · rw [if_pos hp]
    go_enter Tryz.func137, Tryz.ntmps137
    go_wp2_with fail
    go_end0
    exact ⟨rfl, rfl⟩
  · rw [if_neg hp]
    go_enter Tryz.func137, Tryz.ntmps137
    go_wp2_with fail
    go_end0
    exact ⟨rfl, rfl⟩
theorem Apart.put {w w' : World} {g : Nat} (h : Apart w w' g g) (k : Nat) (v : Value) : Apart w (w'.setCell ⟨g, k, none⟩ v) g g := by
  refine ⟨h.1, h.2.1, h.2.2.1, by simp [h.2.2.2.1], fun j h1 h2 => ?_⟩
  rw [Below.heap_setCell _ _ _ _ (by simpa using h1)]
  exact h.2.2.2.2 j h1 h2
theorem Apart.first {w : World} {g k : Nat} {p n : Int} : Apart w (if p < 0 then w.setCell ⟨g, k, none⟩ (.int .i64 n) else w) g g := by
  split
  · exact (Apart.refl w g g).put k _
  · exact Apart.refl w g g
theorem CAt.first {w : World} {g k : Nat} {c d : Ctl.C} {p n : Int} (h : CAt w g c) (h0 : (ccells c)[k]? = some (.int .i64 p)) (hd : (ccells c).setIfInBounds k (.int .i64 (Ctl.first p n)) = ccells d) : CAt (if p < 0 then w.setCell ⟨g, k, none⟩ (.int .i64 n) else w) g d := by
  unfold Ctl.first at hd
  by_cases hp : p < 0
  · rw [if_pos hp] at hd ⊢; exact h.put k _ hd
  · rw [if_neg hp] at hd ⊢
    have : (ccells c).setIfInBounds k (.int .i64 p) = ccells c := by
      apply Array.ext_getElem?
      intro i
      rw [Array.getElem?_setIfInBounds]
      split
      · rename_i e; subst e
        rw [h0]; split <;> first | rfl | (rename_i hk; rw [Array.getElem?_eq_none (by omega)] at h0; cases h0)
      · rfl
    rw [this] at hd
    unfold CAt; rw [← hd]; exact h
set_option maxHeartbeats 1600000 in
set_option maxRecDepth 100000 in
theorem say_ns_w (c : Ctl.C) (n : Int) (g : Nat) (w : World) (h : CAt w g c) :
    Calls Tryz.prog 100 #[.pointer (some ⟨g, 0, none⟩), .string (str Ctl.kNS), .int .i64 n] w fun e w' => e = .returned (.tuple #[]) ∧ CAt w' g (Ctl.say c Ctl.kNS n) ∧ Apart w w' g g := by
  have hc := h.cell 0
  have hf := h.free 0
  have HP := Lib.hid (h.put 0 (.bool true) (d := Ctl.say c Ctl.kNS n) (by rw [Ctl.say_ns]; rfl))
  rw [show (ccells c)[0]? = some (.bool c.ns) from rfl] at hc
  rw [show str Ctl.kNS = ⟨#[110, 111, 45, 115, 116, 111, 114, 101]⟩ from rfl]
  clear h
  go_enter Tryz.func100, Tryz.ntmps100
  go_wp2_with fail
  go_end0
  exact ⟨rfl, HP.out, (Apart.refl w g g).put 0 _⟩
set_option maxHeartbeats 1600000 in
set_option maxRecDepth 100000 in
theorem say_nc_w (c : Ctl.C) (n : Int) (g : Nat) (w : World) (h : CAt w g c) :
    Calls Tryz.prog 100 #[.pointer (some ⟨g, 0, none⟩), .string (str Ctl.kNC), .int .i64 n] w fun e w' => e = .returned (.tuple #[]) ∧ CAt w' g (Ctl.say c Ctl.kNC n) ∧ Apart w w' g g := by
  have hc := h.cell 1
  have hf := h.free 1
  have HP := Lib.hid (h.put 1 (.bool true) (d := Ctl.say c Ctl.kNC n) (by rw [Ctl.say_nc]; rfl))
  rw [show (ccells c)[1]? = some (.bool c.nc) from rfl] at hc
  rw [show str Ctl.kNC = ⟨#[110, 111, 45, 99, 97, 99, 104, 101]⟩ from rfl]
  clear h
  go_enter Tryz.func100, Tryz.ntmps100
  go_wp2_with fail
  go_end0
  exact ⟨rfl, HP.out, (Apart.refl w g g).put 1 _⟩
set_option maxHeartbeats 1600000 in
set_option maxRecDepth 100000 in
theorem say_pu_w (c : Ctl.C) (n : Int) (g : Nat) (w : World) (h : CAt w g c) :
    Calls Tryz.prog 100 #[.pointer (some ⟨g, 0, none⟩), .string (str Ctl.kPU), .int .i64 n] w fun e w' => e = .returned (.tuple #[]) ∧ CAt w' g (Ctl.say c Ctl.kPU n) ∧ Apart w w' g g := by
  have hc := h.cell 2
  have hf := h.free 2
  have HP := Lib.hid (h.put 2 (.bool true) (d := Ctl.say c Ctl.kPU n) (by rw [Ctl.say_pu]; rfl))
  rw [show (ccells c)[2]? = some (.bool c.pu) from rfl] at hc
  rw [show str Ctl.kPU = ⟨#[112, 117, 98, 108, 105, 99]⟩ from rfl]
  clear h
  go_enter Tryz.func100, Tryz.ntmps100
  go_wp2_with fail
  go_end0
  exact ⟨rfl, HP.out, (Apart.refl w g g).put 2 _⟩
set_option maxHeartbeats 1600000 in
set_option maxRecDepth 100000 in
theorem say_pr_w (c : Ctl.C) (n : Int) (g : Nat) (w : World) (h : CAt w g c) :
    Calls Tryz.prog 100 #[.pointer (some ⟨g, 0, none⟩), .string (str Ctl.kPR), .int .i64 n] w fun e w' => e = .returned (.tuple #[]) ∧ CAt w' g (Ctl.say c Ctl.kPR n) ∧ Apart w w' g g := by
  have hc := h.cell 3
  have hf := h.free 3
  have HP := Lib.hid (h.put 3 (.bool true) (d := Ctl.say c Ctl.kPR n) (by rw [Ctl.say_pr]; rfl))
  rw [show (ccells c)[3]? = some (.bool c.pr) from rfl] at hc
  rw [show str Ctl.kPR = ⟨#[112, 114, 105, 118, 97, 116, 101]⟩ from rfl]
  clear h
  go_enter Tryz.func100, Tryz.ntmps100
  go_wp2_with fail
  go_end0
  exact ⟨rfl, HP.out, (Apart.refl w g g).put 3 _⟩
set_option maxHeartbeats 1600000 in
set_option maxRecDepth 100000 in
theorem say_mu_w (c : Ctl.C) (n : Int) (g : Nat) (w : World) (h : CAt w g c) :
    Calls Tryz.prog 100 #[.pointer (some ⟨g, 0, none⟩), .string (str Ctl.kMU), .int .i64 n] w fun e w' => e = .returned (.tuple #[]) ∧ CAt w' g (Ctl.say c Ctl.kMU n) ∧ Apart w w' g g := by
  have hc := h.cell 4
  have hf := h.free 4
  have HP := Lib.hid (h.put 4 (.bool true) (d := Ctl.say c Ctl.kMU n) (by rw [Ctl.say_mu]; rfl))
  rw [show (ccells c)[4]? = some (.bool c.mu) from rfl] at hc
  rw [show str Ctl.kMU = ⟨#[109, 117, 115, 116, 45, 114, 101, 118, 97, 108, 105, 100, 97, 116, 101]⟩ from rfl]
  clear h
  go_enter Tryz.func100, Tryz.ntmps100
  go_wp2_with fail
  go_end0
  exact ⟨rfl, HP.out, (Apart.refl w g g).put 4 _⟩
set_option maxHeartbeats 1600000 in
set_option maxRecDepth 100000 in
theorem say_px_w (c : Ctl.C) (n : Int) (g : Nat) (w : World) (h : CAt w g c) :
    Calls Tryz.prog 100 #[.pointer (some ⟨g, 0, none⟩), .string (str Ctl.kPX), .int .i64 n] w fun e w' => e = .returned (.tuple #[]) ∧ CAt w' g (Ctl.say c Ctl.kPX n) ∧ Apart w w' g g := by
  have hc := h.cell 5
  have hf := h.free 5
  have HP := Lib.hid (h.put 5 (.bool true) (d := Ctl.say c Ctl.kPX n) (by rw [Ctl.say_px]; rfl))
  rw [show (ccells c)[5]? = some (.bool c.px) from rfl] at hc
  rw [show str Ctl.kPX = ⟨#[112, 114, 111, 120, 121, 45, 114, 101, 118, 97, 108, 105, 100, 97, 116, 101]⟩ from rfl]
  clear h
  go_enter Tryz.func100, Tryz.ntmps100
  go_wp2_with fail
  go_end0
  exact ⟨rfl, HP.out, (Apart.refl w g g).put 5 _⟩
set_option maxHeartbeats 1600000 in
set_option maxRecDepth 100000 in
theorem say_oi_w (c : Ctl.C) (n : Int) (g : Nat) (w : World) (h : CAt w g c) :
    Calls Tryz.prog 100 #[.pointer (some ⟨g, 0, none⟩), .string (str Ctl.kOI), .int .i64 n] w fun e w' => e = .returned (.tuple #[]) ∧ CAt w' g (Ctl.say c Ctl.kOI n) ∧ Apart w w' g g := by
  have hc := h.cell 6
  have hf := h.free 6
  have HP := Lib.hid (h.put 6 (.bool true) (d := Ctl.say c Ctl.kOI n) (by rw [Ctl.say_oi]; rfl))
  rw [show (ccells c)[6]? = some (.bool c.oi) from rfl] at hc
  rw [show str Ctl.kOI = ⟨#[111, 110, 108, 121, 45, 105, 102, 45, 99, 97, 99, 104, 101, 100]⟩ from rfl]
  clear h
  go_enter Tryz.func100, Tryz.ntmps100
  go_wp2_with fail
  go_end0
  exact ⟨rfl, HP.out, (Apart.refl w g g).put 6 _⟩
set_option maxHeartbeats 1600000 in
set_option maxRecDepth 100000 in
theorem say_ma_w (c : Ctl.C) (n : Int) (g : Nat) (w : World) (h : CAt w g c) :
    Calls Tryz.prog 100 #[.pointer (some ⟨g, 0, none⟩), .string (str Ctl.kMA), .int .i64 n] w fun e w' => e = .returned (.tuple #[]) ∧ CAt w' g (Ctl.say c Ctl.kMA n) ∧ Apart w w' g g := by
  have hc := h.cell 7
  have hf := h.free 7
  rw [show (ccells c)[7]? = some (.int .i64 c.ma) from rfl] at hc
  have HP := Lib.hid (h.first (k := 7) (p := c.ma) (n := n) rfl (d := Ctl.say c Ctl.kMA n) (by rw [Ctl.say_ma]; rfl))
  have cF := first_w g 7 c.ma n w hc hf
  rw [show str Ctl.kMA = ⟨#[109, 97, 120, 45, 97, 103, 101]⟩ from rfl]
  clear h hc hf
  go_enter Tryz.func100, Tryz.ntmps100
  go_wp2_with fail
  refine cF.mono ?_
  rintro e w1 ⟨rfl, h1⟩
  have HP1 := HP.out
  have HA := Apart.first (w := w) (g := g) (k := 7) (p := c.ma) (n := n)
  rw [← h1] at HP1 HA
  clear HP h1
  go_wp2_with fail
  go_end0
  exact ⟨rfl, HP1, HA⟩
set_option maxHeartbeats 1600000 in
set_option maxRecDepth 100000 in
theorem say_sa_w (c : Ctl.C) (n : Int) (g : Nat) (w : World) (h : CAt w g c) :
    Calls Tryz.prog 100 #[.pointer (some ⟨g, 0, none⟩), .string (str Ctl.kSA), .int .i64 n] w fun e w' => e = .returned (.tuple #[]) ∧ CAt w' g (Ctl.say c Ctl.kSA n) ∧ Apart w w' g g := by
  have hc := h.cell 8
  have hf := h.free 8
  rw [show (ccells c)[8]? = some (.int .i64 c.sa) from rfl] at hc
  have HP := Lib.hid (h.first (k := 8) (p := c.sa) (n := n) rfl (d := Ctl.say c Ctl.kSA n) (by rw [Ctl.say_sa]; rfl))
  have cF := first_w g 8 c.sa n w hc hf
  rw [show str Ctl.kSA = ⟨#[115, 45, 109, 97, 120, 97, 103, 101]⟩ from rfl]
  clear h hc hf
  go_enter Tryz.func100, Tryz.ntmps100
  go_wp2_with fail
  refine cF.mono ?_
  rintro e w1 ⟨rfl, h1⟩
  have HP1 := HP.out
  have HA := Apart.first (w := w) (g := g) (k := 8) (p := c.sa) (n := n)
  rw [← h1] at HP1 HA
  clear HP h1
  go_wp2_with fail
  go_end0
  exact ⟨rfl, HP1, HA⟩
set_option maxHeartbeats 1600000 in
set_option maxRecDepth 100000 in
theorem say_ms_w (c : Ctl.C) (n : Int) (g : Nat) (w : World) (h : CAt w g c) :
    Calls Tryz.prog 100 #[.pointer (some ⟨g, 0, none⟩), .string (str Ctl.kMS), .int .i64 n] w fun e w' => e = .returned (.tuple #[]) ∧ CAt w' g (Ctl.say c Ctl.kMS n) ∧ Apart w w' g g := by
  have hc := h.cell 9
  have hf := h.free 9
  rw [show (ccells c)[9]? = some (.int .i64 c.ms) from rfl] at hc
  have HP := Lib.hid (h.first (k := 9) (p := c.ms) (n := n) rfl (d := Ctl.say c Ctl.kMS n) (by rw [Ctl.say_ms]; rfl))
  have cF := first_w g 9 c.ms n w hc hf
  rw [show str Ctl.kMS = ⟨#[109, 97, 120, 45, 115, 116, 97, 108, 101]⟩ from rfl]
  clear h hc hf
  go_enter Tryz.func100, Tryz.ntmps100
  go_wp2_with fail
  refine cF.mono ?_
  rintro e w1 ⟨rfl, h1⟩
  have HP1 := HP.out
  have HA := Apart.first (w := w) (g := g) (k := 9) (p := c.ms) (n := n)
  rw [← h1] at HP1 HA
  clear HP h1
  go_wp2_with fail
  go_end0
  exact ⟨rfl, HP1, HA⟩
set_option maxHeartbeats 1600000 in
set_option maxRecDepth 100000 in
theorem say_mf_w (c : Ctl.C) (n : Int) (g : Nat) (w : World) (h : CAt w g c) :
    Calls Tryz.prog 100 #[.pointer (some ⟨g, 0, none⟩), .string (str Ctl.kMF), .int .i64 n] w fun e w' => e = .returned (.tuple #[]) ∧ CAt w' g (Ctl.say c Ctl.kMF n) ∧ Apart w w' g g := by
  have hc := h.cell 10
  have hf := h.free 10
  rw [show (ccells c)[10]? = some (.int .i64 c.mf) from rfl] at hc
  have HP := Lib.hid (h.first (k := 10) (p := c.mf) (n := n) rfl (d := Ctl.say c Ctl.kMF n) (by rw [Ctl.say_mf]; rfl))
  have cF := first_w g 10 c.mf n w hc hf
  rw [show str Ctl.kMF = ⟨#[109, 105, 110, 45, 102, 114, 101, 115, 104]⟩ from rfl]
  clear h hc hf
  go_enter Tryz.func100, Tryz.ntmps100
  go_wp2_with fail
  refine cF.mono ?_
  rintro e w1 ⟨rfl, h1⟩
  have HP1 := HP.out
  have HA := Apart.first (w := w) (g := g) (k := 10) (p := c.mf) (n := n)
  rw [← h1] at HP1 HA
  clear HP h1
  go_wp2_with fail
  go_end0
  exact ⟨rfl, HP1, HA⟩
set_option maxHeartbeats 1600000 in
set_option maxRecDepth 100000 in
theorem say_other_w (nm : List UInt8) (c : Ctl.C) (n : Int) (g : Nat) (w : World) (h : CAt w g c) (hk : nm ∉ Ctl.known) :
    Calls Tryz.prog 100 #[.pointer (some ⟨g, 0, none⟩), .string (str nm), .int .i64 n] w fun e w' => e = .returned (.tuple #[]) ∧ CAt w' g (Ctl.say c nm n) ∧ Apart w w' g g := by
  rw [Ctl.say_not hk]
  obtain ⟨s, hs⟩ : ∃ s, s = str nm := ⟨_, rfl⟩
  have ne : ∀ k, k ∈ Ctl.known → (s.toList == k) = false := fun k hm => by
    rw [hs, str_toList, beq_eq_false_iff_ne.2]; intro e; exact hk (e ▸ hm)
  have eNS : (s.toList == [110, 111, 45, 115, 116, 111, 114, 101]) = false := ne Ctl.kNS (by simp [Ctl.known])
  have eNC : (s.toList == [110, 111, 45, 99, 97, 99, 104, 101]) = false := ne Ctl.kNC (by simp [Ctl.known])
  have ePU : (s.toList == [112, 117, 98, 108, 105, 99]) = false := ne Ctl.kPU (by simp [Ctl.known])
  have ePR : (s.toList == [112, 114, 105, 118, 97, 116, 101]) = false := ne Ctl.kPR (by simp [Ctl.known])
  have eMU : (s.toList == [109, 117, 115, 116, 45, 114, 101, 118, 97, 108, 105, 100, 97, 116, 101]) = false := ne Ctl.kMU (by simp [Ctl.known])
  have ePX : (s.toList == [112, 114, 111, 120, 121, 45, 114, 101, 118, 97, 108, 105, 100, 97, 116, 101]) = false := ne Ctl.kPX (by simp [Ctl.known])
  have eOI : (s.toList == [111, 110, 108, 121, 45, 105, 102, 45, 99, 97, 99, 104, 101, 100]) = false := ne Ctl.kOI (by simp [Ctl.known])
  have eMA : (s.toList == [109, 97, 120, 45, 97, 103, 101]) = false := ne Ctl.kMA (by simp [Ctl.known])
  have eSA : (s.toList == [115, 45, 109, 97, 120, 97, 103, 101]) = false := ne Ctl.kSA (by simp [Ctl.known])
  have eMS : (s.toList == [109, 97, 120, 45, 115, 116, 97, 108, 101]) = false := ne Ctl.kMS (by simp [Ctl.known])
  have eMF : (s.toList == [109, 105, 110, 45, 102, 114, 101, 115, 104]) = false := ne Ctl.kMF (by simp [Ctl.known])
  rw [← hs]
  have HC := Lib.hid h
  clear ne hs hk h
  go_enter Tryz.func100, Tryz.ntmps100
  go_wp2_with fail
  go_end0
  exact ⟨rfl, HC.out, Apart.refl w g g⟩
theorem say_w (nm : List UInt8) (c : Ctl.C) (n : Int) (g : Nat) (w : World) (h : CAt w g c) :
    Calls Tryz.prog 100 #[.pointer (some ⟨g, 0, none⟩), .string (str nm), .int .i64 n] w fun e w' => e = .returned (.tuple #[]) ∧ CAt w' g (Ctl.say c nm n) ∧ Apart w w' g g := by
  by_cases hk : nm ∈ Ctl.known
  · simp only [Ctl.known, List.mem_cons, List.not_mem_nil, or_false] at hk
    rcases hk with rfl | rfl | rfl | rfl | rfl | rfl | rfl | rfl | rfl | rfl | rfl
    · exact say_ns_w c n g w h
    · exact say_nc_w c n g w h
    · exact say_pu_w c n g w h
    · exact say_pr_w c n g w h
    · exact say_mu_w c n g w h
    · exact say_px_w c n g w h
    · exact say_oi_w c n g w h
    · exact say_ma_w c n g w h
    · exact say_sa_w c n g w h
    · exact say_ms_w c n g w h
    · exact say_mf_w c n g w h
  · exact say_other_w nm c n g w h hk
end Go.Proofs.YtoanelobggledaaGreatDoor

namespace Go.Proofs.YtoanelobggledaaGreatDoor
open Go.RowKit

def MaxOk (w : World) : Prop := ∃ m, w.cell? ⟨2, 0, none⟩ = some (.int .i64 m)
theorem MaxOk.later {w w' : World} (h : MaxOk w) (hb : Below w.heap.size w w') : MaxOk w' := by
  obtain ⟨m, h⟩ := h
  exact ⟨m, (hb.cell (p := ⟨2, 0, none⟩) (World.block_lt_of_cell? w _ h)).trans h⟩
theorem str_same {a : ByteArray} {l : List UInt8} (h : a.data.toList = l) : a = str l := by rw [← h, str_of]
theorem cut_eq (l : List UInt8) : Lib.cut l [61] = if Ctl.eqAt l = l.length then (l, [], false) else (l.take (Ctl.eqAt l), l.drop (Ctl.eqAt l + 1), true) := by
  unfold Lib.cut
  rw [Lib.index_one, Ctl.eqAt_index]
  by_cases h : Ctl.eqAt l = l.length
  · rw [if_pos h, if_neg (by decide)]; simp [h]
  · rw [if_neg h, if_pos (by omega), if_neg h]; simp
set_option maxHeartbeats 800000 in
theorem worth_w (s : List UInt8) (w : World) (hs : s.length ≤ 1000000) :
    Calls Tryz.prog 136 #[.string (str s)] w fun e w' => e = .returned (.int .i64 (Ctl.worth s)) ∧ Below w.heap.size w w' := by
  have hN := Number_s (str s) 2147483647 w (by rw [str_size]; exact hs) (by decide) (by decide)
  rw [str_list] at hN
  have HW : Hid (Ctl.worth s = if (Oct.number 10 2147483647 s).2 = 12 then 2147483647 else (Oct.number 10 2147483647 s).1) := Lib.hid rfl
  obtain ⟨a, e, hae⟩ : ∃ a e, Oct.number 10 2147483647 s = (a, e) := ⟨_, _, rfl⟩
  rw [hae] at hN HW
  generalize str s = t at *
  clear hs hae
  by_cases he : e = 12
  · subst he
    go_enter Tryz.func136, Tryz.ntmps136
    go_wp2_with fail
    refine hN.mono ?_
    rintro e w1 ⟨rfl, hb⟩
    go_wp2_with fail
    go_ret
    exact ⟨ret_int (by have := HW.out; simpa using this.symm), hb⟩
  · have b1 : (e == 12) = false := beq_eq_false_iff_ne.2 he
    have HE := Lib.hid he
    clear he
    go_enter Tryz.func136, Tryz.ntmps136
    go_wp2_with fail
    refine hN.mono ?_
    rintro r w1 ⟨rfl, hb⟩
    go_wp2_with fail
    go_ret
    exact ⟨ret_int (by rw [HW.out, if_neg HE.out]), hb⟩
set_option maxHeartbeats 800000 in
theorem argument_yes (s a : List UInt8) (w : World) (hs : s.length ≤ 1000000) (h : Ctl.argument s = some a) :
    Calls Tryz.prog 135 #[.string (str s)] w fun e w' => e = .returned (.tuple #[.string (str a), .bool true]) ∧ Below w.heap.size w w' := by
  have hz : (str s).size ≤ 1000000 := by rw [str_size]; exact hs
  have cT := Token_s (str s) w hz
  have cU := Unquote_s (str s) w hz
  rw [str_list] at cT cU
  unfold Ctl.argument at h
  by_cases ht : Oct.token s = true
  · rw [if_pos ht] at h
    rw [ht] at cT
    obtain rfl : s = a := Option.some.inj h
    generalize str s = t at *
    clear cU h ht hs hz
    go_enter Tryz.func135, Tryz.ntmps135
    go_wp2_with (go_at_call 102; refine cT.mono ?_; rintro e w1 ⟨rfl, rfl⟩)
    go_ret2
    exact ⟨rfl, Below.refl _ _⟩
  · rw [if_neg ht] at h
    have ht' : Oct.token s = false := by simpa using ht
    rw [ht'] at cT
    cases hu : Oct.unquote s with
    | none => rw [hu] at h; cases h
    | some x =>
      obtain ⟨t, n⟩ := x
      rw [hu] at h cU
      have hn : n = s.length := by
        by_cases hn : n = s.length
        · exact hn
        · simp only [] at h; rw [if_neg hn] at h; cases h
      simp only [] at h
      rw [if_pos hn] at h
      obtain rfl : t = a := Option.some.inj h
      rw [show unqRes (some (t, n)) = .tuple #[.string (str t), .int .i64 n, .int .i64 0] from rfl, hn, ← str_size] at cU
      generalize str s = u at *
      generalize str t = v at *
      clear h ht ht' hs hu hn
      go_enter Tryz.func135, Tryz.ntmps135
      go_wp2_with (go_at_call 102; refine cT.mono ?_; rintro e w1 ⟨rfl, rfl⟩)
      refine cU.mono ?_
      rintro e w1 ⟨rfl, hb⟩
      go_wp2_with fail
      go_ret2
      exact ⟨rfl, hb⟩
set_option maxHeartbeats 800000 in
theorem argument_no (s : List UInt8) (w : World) (hs : s.length ≤ 1000000) (h : Ctl.argument s = none) :
    Calls Tryz.prog 135 #[.string (str s)] w fun e w' => ∃ t, e = .returned (.tuple #[.string t, .bool false]) ∧ Below w.heap.size w w' := by
  have hz : (str s).size ≤ 1000000 := by rw [str_size]; exact hs
  have cT := Token_s (str s) w hz
  have cU := Unquote_s (str s) w hz
  rw [str_list] at cT cU
  unfold Ctl.argument at h
  by_cases ht : Oct.token s = true
  · rw [if_pos ht] at h; cases h
  · rw [if_neg ht] at h
    have ht' : Oct.token s = false := by simpa using ht
    rw [ht'] at cT
    cases hu : Oct.unquote s with
    | none =>
      rw [hu, show unqRes none = .tuple #[.string ⟨#[]⟩, .int .i64 0, .int .i64 10] from rfl] at cU
      generalize str s = u at *
      clear h ht ht' hs hu
      go_enter Tryz.func135, Tryz.ntmps135
      go_wp2_with (go_at_call 102; refine cT.mono ?_; rintro e w1 ⟨rfl, rfl⟩)
      refine cU.mono ?_
      rintro e w1 ⟨rfl, hb⟩
      go_wp2_with fail
      go_ret2
      exact ⟨_, rfl, hb⟩
    | some x =>
      obtain ⟨t, n⟩ := x
      rw [hu] at h cU
      have hn : ¬ n = s.length := by
        intro hn
        simp only [] at h; rw [if_pos hn] at h; cases h
      have hb0 : ((n : Int) == ((str s).size : Int)) = false := by rw [beq_eq_false_iff_ne, str_size]; omega
      rw [show unqRes (some (t, n)) = .tuple #[.string (str t), .int .i64 n, .int .i64 0] from rfl] at cU
      generalize str s = u at *
      generalize str t = v at *
      clear h ht ht' hs hu hn
      go_enter Tryz.func135, Tryz.ntmps135
      go_wp2_with (go_at_call 102; refine cT.mono ?_; rintro e w1 ⟨rfl, rfl⟩)
      refine cU.mono ?_
      rintro e w1 ⟨rfl, hb⟩
      go_wp2_with fail
      go_ret2
      exact ⟨_, rfl, hb⟩
def dres : Option (List UInt8 × Int) → Value
  | some (nm, n) => .tuple #[.string (str nm), .int .i64 n, .bool true]
  | none => .tuple #[.string ⟨#[]⟩, .int .i64 0, .bool false]
set_option maxHeartbeats 800000 in
theorem directive_w (l : List UInt8) (w : World) (hl : l.length ≤ 1000000) (hm : MaxOk w) :
    Calls Tryz.prog 99 #[.string (str l)] w fun e w' => e = .returned (dres (Ctl.directive l)) ∧ Below w.heap.size w w' := by
  obtain ⟨m, hmc⟩ := hm
  have cC := Tryz.strings_Cut (str l) ⟨#[61]⟩ m w (by rw [str_size]; omega) hmc
  rw [str_list, show (⟨#[61]⟩ : ByteArray).data.toList = [61] from rfl, cut_eq] at cC
  have hle := Ctl.eqAt_le l
  have hlt : (l.take (Ctl.eqAt l)).length ≤ 1000000 := by rw [List.length_take]; omega
  have cT := fun w => Token_s (str (l.take (Ctl.eqAt l))) w (by rw [str_size]; exact hlt)
  have cL := fun w => Lower_s (str (l.take (Ctl.eqAt l))) w (by rw [str_size]; exact hlt)
  rw [str_list] at cT cL
  by_cases ht : Oct.token (l.take (Ctl.eqAt l)) = true
  case neg =>
    have ht' : Oct.token (l.take (Ctl.eqAt l)) = false := by simpa using ht
    have HR : Hid (dres (Ctl.directive l) = .tuple #[.string ⟨#[]⟩, .int .i64 0, .bool false]) := by unfold Ctl.directive; rw [if_pos ht']; exact Lib.hid rfl
    rw [ht'] at cT
    have cC' : Calls Tryz.prog 134 #[.string (str l), .string ⟨#[61]⟩] w fun e w' => ∃ r b, e = .returned (.tuple #[.string (str (l.take (Ctl.eqAt l))), .string r, .bool b]) ∧ ∃ n, w' = w.drewN n := by
      refine cC.mono ?_
      rintro e w' ⟨he, hn⟩
      by_cases hc : Ctl.eqAt l = l.length
      · rw [if_pos hc] at he
        refine ⟨str [], false, ?_, hn⟩
        rw [he, hc, List.take_of_length_le (Nat.le_refl _)]; rfl
      · rw [if_neg hc] at he
        exact ⟨str (l.drop (Ctl.eqAt l + 1)), true, he, hn⟩
    generalize str (l.take (Ctl.eqAt l)) = s0 at *
    generalize str l = s at *
    clear ht ht' hle hlt cC cL hmc hl
    go_enter Tryz.func99, Tryz.ntmps99
    go_wp2_with fail
    refine cC'.mono ?_
    rintro e w1 ⟨r, b, rfl, q, rfl⟩
    go_wp2_with (go_at_call 102; refine (cT _).mono ?_; rintro e w2 ⟨rfl, rfl⟩)
    go_ret3
    exact ⟨by rw [HR.out]; rfl, bdrewN w q⟩
  rw [ht] at cT
  by_cases hc : Ctl.eqAt l = l.length
  · rw [if_pos hc] at cC
    have e1 : l.take (Ctl.eqAt l) = l := by rw [hc, List.take_of_length_le (Nat.le_refl _)]
    rw [e1] at cT cL ht
    have HR : Hid (Ctl.directive l = some (Oct.lower l, Ctl.bare (Oct.lower l))) := by unfold Ctl.directive; rw [e1, if_neg (by rw [ht]; decide), if_pos hc]; exact Lib.hid rfl
    have cC' : Calls Tryz.prog 134 #[.string (str l), .string ⟨#[61]⟩] w fun e w' => e = .returned (.tuple #[.string (str l), .string (str []), .bool false]) ∧ ∃ n, w' = w.drewN n := cC
    generalize str l = s at *
    clear ht e1 hle hlt cC hmc hl hc
    obtain ⟨nm, hnm⟩ : ∃ nm, nm = Oct.lower l := ⟨_, rfl⟩
    rw [← hnm] at cL HR
    clear hnm
    by_cases hk : nm = Ctl.kMS
    · subst hk
      have HV : Hid (dres (Ctl.directive l) = .tuple #[.string ⟨#[109, 97, 120, 45, 115, 116, 97, 108, 101]⟩, .int .i64 2147483647, .bool true]) := by rw [HR.out]; exact Lib.hid rfl
      rw [show str Ctl.kMS = ⟨#[109, 97, 120, 45, 115, 116, 97, 108, 101]⟩ from rfl] at cL
      clear HR
      go_enter Tryz.func99, Tryz.ntmps99
      go_wp2_with fail
      refine cC'.mono ?_
      rintro e w1 ⟨rfl, q, rfl⟩
      go_wp2_with (go_at_call 102; refine (cT _).mono ?_; rintro e w2 ⟨rfl, rfl⟩)
      refine (cL _).mono ?_
      rintro e w2 ⟨rfl, hb⟩
      go_wp2_with fail
      go_ret3
      exact ⟨by rw [HV.out]; rfl, (bdrewN w q).trans (hb.mono (bdrewN w q).size)⟩
    · have HV : Hid (dres (Ctl.directive l) = .tuple #[.string (str nm), .int .i64 0, .bool true]) := by rw [HR.out]; unfold Ctl.bare; rw [if_neg hk]; exact Lib.hid rfl
      have b1 : ((str nm).toList == [109, 97, 120, 45, 115, 116, 97, 108, 101]) = false := by rw [str_toList, beq_eq_false_iff_ne]; exact hk
      generalize str nm = u at *
      clear HR hk
      go_enter Tryz.func99, Tryz.ntmps99
      go_wp2_with fail
      refine cC'.mono ?_
      rintro e w1 ⟨rfl, q, rfl⟩
      go_wp2_with (go_at_call 102; refine (cT _).mono ?_; rintro e w2 ⟨rfl, rfl⟩)
      refine (cL _).mono ?_
      rintro e w2 ⟨rfl, hb⟩
      go_wp2_with fail
      go_ret3
      exact ⟨by rw [HV.out]; rfl, (bdrewN w q).trans (hb.mono (bdrewN w q).size)⟩
  · rw [if_neg hc] at cC
    have cC' : Calls Tryz.prog 134 #[.string (str l), .string ⟨#[61]⟩] w fun e w' => e = .returned (.tuple #[.string (str (l.take (Ctl.eqAt l))), .string (str (l.drop (Ctl.eqAt l + 1))), .bool true]) ∧ ∃ n, w' = w.drewN n := cC
    have hla : (l.drop (Ctl.eqAt l + 1)).length ≤ 1000000 := by rw [List.length_drop]; omega
    have HR : Hid (Ctl.directive l = (Ctl.argument (l.drop (Ctl.eqAt l + 1))).map fun s => (Oct.lower (l.take (Ctl.eqAt l)), Ctl.worth s)) := by unfold Ctl.directive; rw [if_neg (by rw [ht]; decide), if_neg hc]; exact Lib.hid rfl
    generalize hnm : Oct.lower (l.take (Ctl.eqAt l)) = nm at *
    generalize l.drop (Ctl.eqAt l + 1) = ar at *
    cases ha : Ctl.argument ar with
    | none =>
      have cA := fun w => argument_no ar w hla ha
      have HV : Hid (dres (Ctl.directive l) = .tuple #[.string ⟨#[]⟩, .int .i64 0, .bool false]) := by rw [HR.out, ha]; exact Lib.hid rfl
      generalize str (l.take (Ctl.eqAt l)) = s0 at *
      generalize str l = s at *
      generalize str ar = sa at *
      generalize str nm = sn at *
      clear ht hle hlt cC hmc hl hc HR hnm hla ha
      go_enter Tryz.func99, Tryz.ntmps99
      go_wp2_with fail
      refine cC'.mono ?_
      rintro e w1 ⟨rfl, q, rfl⟩
      go_wp2_with (go_at_call 102; refine (cT _).mono ?_; rintro e w2 ⟨rfl, rfl⟩)
      refine (cL _).mono ?_
      rintro e w2 ⟨rfl, hb⟩
      go_wp2_with fail
      refine (cA _).mono ?_
      rintro e w3 ⟨t, rfl, hb3⟩
      go_wp2_with fail
      go_ret3
      exact ⟨by rw [HV.out]; rfl, (bdrewN w q).trans ((hb.trans (hb3.mono hb.size)).mono (bdrewN w q).size)⟩
    | some a =>
      have cA := fun w => argument_yes ar a w hla ha
      have hla' : a.length ≤ 1000000 := Nat.le_trans (Ctl.argument_len ha) hla
      have cW := fun w => worth_w a w hla'
      have HV : Hid (dres (Ctl.directive l) = .tuple #[.string (str nm), .int .i64 (Ctl.worth a), .bool true]) := by rw [HR.out, ha]; exact Lib.hid rfl
      generalize str (l.take (Ctl.eqAt l)) = s0 at *
      generalize str l = s at *
      generalize str ar = sa at *
      generalize str nm = sn at *
      generalize str a = st at *
      generalize Ctl.worth a = wt at *
      clear ht hle hlt cC hmc hl hc HR hnm hla ha hla'
      go_enter Tryz.func99, Tryz.ntmps99
      go_wp2_with fail
      refine cC'.mono ?_
      rintro e w1 ⟨rfl, q, rfl⟩
      go_wp2_with (go_at_call 102; refine (cT _).mono ?_; rintro e w2 ⟨rfl, rfl⟩)
      refine (cL _).mono ?_
      rintro e w2 ⟨rfl, hb⟩
      go_wp2_with fail
      refine (cA _).mono ?_
      rintro e w3 ⟨rfl, hb3⟩
      go_wp2_with fail
      refine (cW _).mono ?_
      rintro e w4 ⟨rfl, hb4⟩
      go_wp2_with fail
      go_ret3
      exact ⟨by rw [HV.out]; rfl, (bdrewN w q).trans ((hb.trans ((hb3.trans (hb4.mono hb3.size)).mono hb.size)).mono (bdrewN w q).size)⟩
end Go.Proofs.YtoanelobggledaaGreatDoor

namespace Go.Proofs.YtoanelobggledaaGreatDoor
open Go.RowKit

structure PAt (W w : World) (g : Nat) (v : Value) (ps : List (List UInt8)) (c : Ctl.C) : Prop where
  res : CAt w W.heap.size Ctl.zeroC
  said : CAt w g c
  gt : W.heap.size < g
  row : w.ownsRow (g + 1) 9 1 v ps.length (strCells ps)
  below : Below W.heap.size W w
theorem PAt.after {W w w' : World} {g : Nat} {v : Value} {ps : List (List UInt8)} {c : Ctl.C} (h : PAt W w g v ps c) (hb : Below w.heap.size w w') : PAt W w' g v ps c :=
  ⟨h.res.later hb, h.said.later hb, h.gt, ownsRow_after h.row (fun k cur hk => by rw [hb.block k (lt_of_block hk)]; exact hk), h.below.trans (hb.mono h.below.size)⟩
theorem PAt.turn {W w w' : World} {g : Nat} {v : Value} {ps : List (List UInt8)} {c d : Ctl.C} (h : PAt W w g v ps c) (ha : Apart w w' g g) (hc : CAt w' g d) : PAt W w' g v ps d := by
  refine ⟨?_, hc, h.gt, ?_, ?_⟩
  · unfold CAt; rw [ha.2.2.2.2 _ (by have := h.gt; omega) (by have := h.gt; omega)]; exact h.res
  · refine ownsRow_after h.row fun k cur hk => ?_
    have hne : k ≠ g := fun e => by
      subst e
      have h1 := h.said
      unfold CAt at h1
      rw [h1] at hk; simp at hk
    rw [ha.2.2.2.2 k hne hne]; exact hk
  · exact h.below.trans ⟨ha.1, ha.2.1, ha.2.2.1, by rw [ha.2.2.2.1]; exact Nat.le_refl _, fun k hk => ha.2.2.2.2 k (by have := h.gt; omega) (by have := h.gt; omega)⟩
theorem row_mono {w : World} {base base' e s n : Nat} {v : Value} {xs : List Value} (h : w.ownsRow base e s v n xs) (hb : base' ≤ base) : w.ownsRow base' e s v n xs := by
  refine ⟨h.1, ?_⟩
  rcases h.2 with h0 | ⟨g, cap, cur, hv, hg, hh, rest⟩
  · exact .inl h0
  · exact .inr ⟨g, cap, cur, hv, Nat.le_trans hb hg, hh, rest⟩
theorem PAt.sin {W w : World} {g : Nat} {v : Value} {ps : List (List UInt8)} {c : Ctl.C} (h : PAt W w g v ps c) : SIn w v ps := SIn.of_row h.row
theorem CAt.whole {w : World} {g : Nat} {c : Ctl.C} (h : CAt w g c) (d : Ctl.C) : CAt (w.setRow g (ccells d)) g d := by
  unfold CAt at *
  simp [World.setRow, Array.getElem?_modify, h]
theorem ccells_one (c : Ctl.C) : (ccells c).all (·.oneCell') = true := by simp [ccells, Value.oneCell']
theorem Below.row {n : Nat} {W w : World} {g : Nat} (h : Below n W w) (hg : n ≤ g) (cs : Array Value) : Below n W (w.setRow g cs) := by
  refine h.trans ⟨rfl, rfl, rfl, by simp [World.setRow], fun k hk => ?_⟩
  have hne : g ≠ k := by omega
  simp [World.setRow, Array.getElem?_modify, hne]
set_option maxHeartbeats 3200000 in
set_option maxRecDepth 100000 in
theorem Parse_w (va : Value) (ls : List (List UInt8)) (w : World) (hv : SIn w va ls) (hn : ls.length ≤ 1000) (hl : ∀ l ∈ ls, l.length ≤ 1000000) (hm : MaxOk w) :
    Calls Tryz.prog 68 #[va] w fun e w' => e = .returned (cval (Ctl.parse ls)) ∧ Below w.heap.size w w' := by
  have HM := Lib.hid hm
  obtain ⟨W1, hW1⟩ : ∃ W1, W1 = w.alloc (.cells (ccells Ctl.zeroC) 32) := ⟨_, rfl⟩
  have hW1' : w.alloc (.cells #[.bool false, .bool false, .bool false, .bool false, .bool false, .bool false, .bool false, .int .i64 0, .int .i64 0, .int .i64 0, .int .i64 0] 32) = W1 := hW1.symm
  have hb1 : Below w.heap.size w W1 := by rw [hW1]; exact (Below.refl _ w).alloc (Nat.le_refl _) _
  have HS1 : Hid (W1.heap.size = w.heap.size + 1) := Lib.hid (by rw [hW1]; simp)
  have hr1 : CAt W1 w.heap.size Ctl.zeroC := by rw [hW1]; exact heap_alloc_new w _
  have hN := None_w W1
  rw [show cval Ctl.none0 = .agg #[.bool false, .bool false, .bool false, .bool false, .bool false, .bool false, .bool false, .int .i64 (-1), .int .i64 (-1), .int .i64 (-1), .int .i64 (-1)] from rfl] at hN
  have HSA := Lib.hid (fun (w2 : World) (hb : Below w.heap.size w w2) => Split_s va ls w2 (hv.later hb) hn hl)
  have hplen : (Oct.splitAll ls).length ≤ 1000001000 := by have := Oct.splitAll_len ls hl; omega
  have HPM : Hid (∀ p ∈ Oct.splitAll ls, p.length ≤ 1000000) := fun p hp => Ctl.splitAll_piece hl hp
  have HR : Hid (Ctl.parse ls = Ctl.sayAll (Oct.splitAll ls)) := Lib.hid rfl
  obtain ⟨ps, hps⟩ : ∃ ps, ps = Oct.splitAll ls := ⟨_, rfl⟩
  rw [← hps] at hplen HPM HR HSA
  clear hm hn hl hv hps hW1
  go_enter Tryz.func68, Tryz.ntmps68
  go_upto_region 1 with fail
  clear hW1'
  go_wp2_with fail
  refine hN.mono ?_
  rintro e w2 ⟨rfl, hb2⟩
  have hb2a := hb2
  have hb2 := hb1.trans (hb2.mono hb1.size)
  go_wp2_with fail
  have hb23 : Below w2.heap.size w2 (w2.alloc (.cells (ccells Ctl.none0) 32)) := (Below.refl _ w2).alloc (Nat.le_refl _) _
  have hc3 : CAt (w2.alloc (.cells (ccells Ctl.none0) 32)) w2.heap.size Ctl.none0 := heap_alloc_new w2 _
  have hs3 : (w2.alloc (.cells (ccells Ctl.none0) 32)).heap.size = w2.heap.size + 1 := by simp
  have hgt : w.heap.size < w2.heap.size := by
    have h1 := hb2a.size; have h2 : W1.heap.size = w.heap.size + 1 := HS1.out
    omega
  have hr3 := (hr1.later hb2a).later hb23
  change CAt (w2.alloc (.cells #[.bool false, .bool false, .bool false, .bool false, .bool false, .bool false, .bool false, .int .i64 (-1), .int .i64 (-1), .int .i64 (-1), .int .i64 (-1)] 32)) w.heap.size Ctl.zeroC at hr3
  change CAt (w2.alloc (.cells #[.bool false, .bool false, .bool false, .bool false, .bool false, .bool false, .bool false, .int .i64 (-1), .int .i64 (-1), .int .i64 (-1), .int .i64 (-1)] 32)) w2.heap.size Ctl.none0 at hc3
  change Below w2.heap.size w2 (w2.alloc (.cells #[.bool false, .bool false, .bool false, .bool false, .bool false, .bool false, .bool false, .int .i64 (-1), .int .i64 (-1), .int .i64 (-1), .int .i64 (-1)] 32)) at hb23
  change (w2.alloc (.cells #[.bool false, .bool false, .bool false, .bool false, .bool false, .bool false, .bool false, .int .i64 (-1), .int .i64 (-1), .int .i64 (-1), .int .i64 (-1)] 32)).heap.size = w2.heap.size + 1 at hs3
  have hb3 := hb2.trans (hb23.mono hb2.size)
  generalize w2.alloc (.cells #[.bool false, .bool false, .bool false, .bool false, .bool false, .bool false, .bool false, .int .i64 (-1), .int .i64 (-1), .int .i64 (-1), .int .i64 (-1)] 32) = W3 at *
  obtain ⟨g, hg⟩ : ∃ g, g = w2.heap.size := ⟨_, rfl⟩
  rw [← hg] at hs3 hgt hc3 ⊢
  refine (HSA.out W3 hb3).mono ?_
  rintro e w4 ⟨v, rfl, hown, hb4⟩
  rw [hs3] at hown
  have hP0 : PAt w w4 g v ps Ctl.none0 := ⟨hr3.later hb4, hc3.later hb4, hgt, row_mono hown (Nat.le_succ _), hb3.trans (hb4.mono hb3.size)⟩
  clear hg hs3 hb23 hb3 hr3 hc3 hown hb4 hb2 hb2a hN HSA hb1 hr1 hgt
  obtain ⟨ao, cp, rfl, hao⟩ := hP0.sin
  obtain ⟨n, hnn⟩ : ∃ n, n = ps.length := ⟨_, rfl⟩
  have HNN := Lib.hid hnn
  rw [← hnn] at hP0 hplen ⊢
  clear hnn
  have HG : Hid (∀ w5 c k (hk : k < n), PAt w w5 g (.slice ao n cp) ps c → ∃ b o, ao = some ⟨b, o, none⟩ ∧ w5.cell? ⟨b, o + k, none⟩ = some (.string (str (ps[k]'(by rw [← HNN.out]; exact hk))))) := by
    intro w5 c k hk hP
    obtain ⟨ao', cap', hv, h⟩ := hP.sin
    injection hv with h1 h2 h3
    subst h1
    rcases h with h | ⟨b, o, h4, h5, h6⟩
    · exfalso; rw [HNN.out, h] at hk; cases hk
    · exact ⟨b, o, h4, h6 k (by rw [← HNN.out]; exact hk)⟩
  clear hao
  go_wp2_with fail
  go_loopw [13] (fun i wr => ∃ k : Nat, k ≤ n ∧ i = .int .i64 k ∧ PAt w wr g (.slice ao n cp) ps (Ctl.sayAll (ps.take k))) (fun i _ => n - (intOf i).toNat)
  case atStart => exact ⟨0, by omega, rfl, hP0⟩
  case round =>
    clear hP0
    obtain ⟨k, hk, rfl, hP⟩ := hrel
    obtain ⟨wo, rfl⟩ : ∃ wo : World, wo = wr := ⟨_, rfl⟩
    by_cases hlt : k < n
    · have hkl : k < ps.length := by have := HNN.out; omega
      have HSn := Lib.hid (Ctl.sayAll_snoc ps k hkl)
      obtain ⟨b, o, rfl, hcell⟩ := HG.out wo _ k hlt hP
      have hD := directive_w ps[k] wo (HPM.out _ (List.getElem_mem hkl)) (HM.out.later hP.below)
      generalize hp : ps[k] = p at *
      generalize Ctl.sayAll (ps.take k) = c at *
      cases hd : Ctl.directive p with
      | none =>
        have HE := Lib.hid (Ctl.step_none (c := c) hd)
        rw [hd, show dres none = .tuple #[.string ⟨#[]⟩, .int .i64 0, .bool false] from rfl] at hD
        clear hd hp
        generalize str p = s at *
        go_wp2_with fail
        refine hD.mono ?_
        rintro e w5 ⟨rfl, hb5⟩
        have hP5 := hP.after hb5
        clear hP hcell hb5 hD
        go_wp2_with fail
        go_roundw
        case rel => exact ⟨k + 1, by omega, by go_num, by rw [HSn.out, HE.out]; exact hP5⟩
        case measure => simp [intOf]; omega
      | some x =>
        obtain ⟨nm, m⟩ := x
        have HE := Lib.hid (Ctl.step_some (c := c) hd)
        rw [hd, show dres (some (nm, m)) = .tuple #[.string (str nm), .int .i64 m, .bool true] from rfl] at hD
        have HSY := Lib.hid (fun (w5 : World) (h : CAt w5 g c) => say_w nm c m g w5 h)
        clear hd hp
        generalize str p = s at *
        generalize str nm = sn at *
        go_wp2_with fail
        refine hD.mono ?_
        rintro e w5 ⟨rfl, hb5⟩
        have hP5 := hP.after hb5
        clear hP hcell hb5 hD
        go_wp2_with fail
        refine (HSY.out w5 hP5.said).mono ?_
        rintro e w6 ⟨rfl, hc6, ha6⟩
        have hP6 := hP5.turn ha6 hc6
        clear hP5 ha6 hc6
        go_wp2_with fail
        go_roundw
        case rel => exact ⟨k + 1, by omega, by go_num, by rw [HSn.out, HE.out]; exact hP6⟩
        case measure => simp [intOf]; omega
    · obtain rfl : k = n := by omega
      have HTA : Hid (ps.take k = ps) := List.take_of_length_le (by have := HNN.out; omega)
      rw [HTA.out, ← HR.out] at hP
      obtain ⟨c, hc⟩ : ∃ c, c = Ctl.parse ls := ⟨_, rfl⟩
      rw [← hc] at hP
      have HC := Lib.hid hc
      clear hc
      have hs := hP.said
      have hr := hP.res
      have HF := Lib.hid (hP.res.whole c)
      have HB := Lib.hid (Below.row (g := w.heap.size) hP.below (Nat.le_refl _) (ccells c))
      unfold CAt at hs hr
      clear hP
      generalize hcc : ccells c = cc at *
      have hsz : cc.size = 11 := by rw [← hcc]; rfl
      have hi : (Tryz.prog.info? 32).map (·.size) = some cc.size := by rw [hsz]; kernel_rfl
      have h1 : cc.all (·.oneCell') = true := by rw [← hcc]; exact ccells_one c
      have HF : Hid ((wo.setRow w.heap.size cc).heap[w.heap.size]? = some (.cells cc 32 (0, 0))) := Lib.hid (by have h := HF.out; unfold CAt at h; rw [hcc] at h; exact h)
      go_upto_region 9 with fail
      go_wp2_with (first
        | refine wpList_load_row rfl 32 _ rfl g rfl 32 cc (0, 0) _ hs Tryz.underlying32 rfl hi ?_
        | refine wpList_store_row rfl 32 _ _ rfl w.heap.size cc rfl rfl 32 (ccells Ctl.zeroC) hr hi hsz.symm h1 ?_)
      (try simp only [Exit.inBlock, Exit.then])
      refine bodyPost_ret (v := .agg cc) ?h1 ?h2 ?h3
      case h1 => exact results_cell_row rfl _ _ w.heap.size _ cc (0, 0) _ rfl HF.out Tryz.underlying32 rfl hi
      case h2 => rfl
      case h3 => exact ⟨by unfold cval; rw [← HC.out, hcc], HB.out⟩
end Go.Proofs.YtoanelobggledaaGreatDoor

namespace Go.Proofs.YtoanelobggledaaGreatDoor
open Go.RowKit

def mcell (a b : ByteArray) (st : Int) (c : ByteArray) (mi : Int) (fv bv : Value) : Array Value := #[.string a, .string b, .int .i64 st, .string c, .int .i64 mi, fv, bv]
def mv (a b : ByteArray) (st : Int) (c : ByteArray) (mi : Int) (fv bv : Value) : Value := .agg (mcell a b st c mi fv bv)
def tv (a g : Int) : Value := .agg #[.int .i64 a, .int .i64 g]
def Sl (v : Value) : Prop := ∃ x l c, v = .slice x l c
def I64 (n : Int) : Prop := -9223372036854775808 ≤ n ∧ n ≤ 9223372036854775807
def shortR (fs : List Fld.F) : Bool := decide (fs.length ≤ 30) && fs.all fun f => decide (f.1.length ≤ 300) && decide (f.2.length ≤ 500)
theorem shortR_spec {fs : List Fld.F} (h : shortR fs = true) : fs.length ≤ 30 ∧ ∀ f ∈ fs, f.1.length ≤ 300 ∧ f.2.length ≤ 500 := by
  unfold shortR at h
  simp only [Bool.and_eq_true, decide_eq_true_eq, List.all_eq_true] at h
  exact h
theorem shortR_many {fs : List Fld.F} (h : 30 < fs.length) : false = shortR fs := by unfold shortR; rw [decide_eq_false (by omega)]; rfl
theorem shortR_long {fs : List Fld.F} {k : Nat} (hk : k < fs.length) (h : 300 < fs[k].1.length ∨ 500 < fs[k].2.length) : false = shortR fs := by
  have h2 : (fs.all fun f => decide (f.1.length ≤ 300) && decide (f.2.length ≤ 500)) = false := by
    rw [List.all_eq_false]
    refine ⟨fs[k], List.getElem_mem hk, ?_⟩
    rw [Bool.and_eq_true, decide_eq_true_eq, decide_eq_true_eq]; omega
  unfold shortR; rw [h2, Bool.and_false]
theorem shortR_all {fs : List Fld.F} (hm : fs.length ≤ 30) (h : ∀ j (hj : j < fs.length), fs[j].1.length ≤ 300 ∧ fs[j].2.length ≤ 500) : true = shortR fs := by
  have h2 : (fs.all fun f => decide (f.1.length ≤ 300) && decide (f.2.length ≤ 500)) = true := by
    rw [List.all_eq_true]
    intro f hf
    obtain ⟨j, hj, rfl⟩ := List.getElem_of_mem hf
    rw [decide_eq_true (h j hj).1, decide_eq_true (h j hj).2]; rfl
  unfold shortR; rw [h2, decide_eq_true hm]; rfl
theorem set7' {w : World} {g : Nat} {a b c d e f h : Value} {t : TypeId} (hh : w.heap[g]? = some (.cells #[a, b, c, d, e, f, h] t (0, 0))) :
    w.cell? ⟨g, 0, none⟩ = some a ∧ w.cell? ⟨g, 1, none⟩ = some b ∧ w.cell? ⟨g, 2, none⟩ = some c ∧ w.cell? ⟨g, 3, none⟩ = some d ∧ w.cell? ⟨g, 4, none⟩ = some e ∧ w.cell? ⟨g, 5, none⟩ = some f ∧ w.cell? ⟨g, 6, none⟩ = some h := by
  simp [World.cell?, hh]
end Go.Proofs.YtoanelobggledaaGreatDoor

namespace Go.Proofs.YtoanelobggledaaGreatDoor
open Go.RowKit

end Go.Proofs.YtoanelobggledaaGreatDoor

namespace Go.Proofs.YtoanelobggledaaGreatDoor
open Go.RowKit

noncomputable def D0 (v : List UInt8) : Option Int := if (Dt.asked v).2 = 0 then some (Dt.asked v).1 else none
theorem D0_yes {v : List UInt8} {a : Int} (h : Dt.Says v a) : D0 v = some a := by unfold D0; rw [Dt.asked_yes h]; rfl
theorem D0_no {v : List UInt8} (h : ∀ a, ¬ Dt.Says v a) : D0 v = none := by unfold D0; rw [Dt.asked_no h]; rfl
theorem D0_fine : Fr.Fine D0 := fun v a h => by
  by_cases hs : ∃ b, Dt.Says v b
  · obtain ⟨b, hb⟩ := hs
    rw [D0_yes hb] at h
    obtain rfl := Option.some.inj h
    exact ⟨hb.1, hb.2.1⟩
  · rw [D0_no fun b hb => hs ⟨b, hb⟩] at h; cases h
structure Env10 (w : World) : Prop where
  tabs : DTabs w
  max : MaxOk w
theorem Env10.later {w w' : World} (h : Env10 w) (hb : Below w.heap.size w w') : Env10 w' := ⟨h.tabs.later hb, h.max.later hb⟩
theorem Parse_some {v : List UInt8} {a : Int} (h : D0 v = some a) (w : World) (hT : DTabs w) :
    Calls Tryz.prog 87 #[.string (str v)] w fun e w' => e = .returned (.tuple #[.int .i64 a, .int .i64 0]) ∧ Below w.heap.size w w' := by
  by_cases hs : ∃ b, Dt.Says v b
  · obtain ⟨b, hb⟩ := hs
    rw [D0_yes hb] at h
    obtain rfl := Option.some.inj h
    exact Parse_yes (str v) b w hT (by rw [str_list]; exact hb)
  · rw [D0_no fun b hb => hs ⟨b, hb⟩] at h; cases h
theorem Parse_none {v : List UInt8} (h : D0 v = none) (w : World) (hT : DTabs w) :
    Calls Tryz.prog 87 #[.string (str v)] w fun e w' => e = .returned (.tuple #[.int .i64 0, .int .i64 10]) ∧ Below w.heap.size w w' := by
  by_cases hs : ∃ b, Dt.Says v b
  · obtain ⟨b, hb⟩ := hs
    rw [D0_yes hb] at h; cases h
  · exact Parse_no (str v) w hT (by rw [str_list]; exact fun b hb => hs ⟨b, hb⟩)
end Go.Proofs.YtoanelobggledaaGreatDoor

