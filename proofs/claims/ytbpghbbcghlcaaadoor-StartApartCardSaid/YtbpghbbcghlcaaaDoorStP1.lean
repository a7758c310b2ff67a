/- Package start: versions, visible octets; what a line's three pieces say. -/
import Derived.Test.YtbpghbbcghlcaaaDoorSt2
import Derived.Test.YtbpghbbcghlcaaaDoorStMathP
namespace Go.Proofs.YtbpghbbcghlcaaaDoor
open Go.RowKit

set_option maxHeartbeats 800000 in
theorem minorOf_s (s : ByteArray) (w : World) :
    Calls Tryd.prog 34 #[.string s] w fun e w' => e = .returned (.tuple #[.int .i64 (if St.minorOf s.data.toList < 0 then 0 else St.minorOf s.data.toList), .bool (decide (0 ≤ St.minorOf s.data.toList))]) ∧ w = w' := by
  by_cases h0 : s.data.toList = St.http0
  · have HV : Hid (St.minorOf s.data.toList = 0) := by unfold St.minorOf; rw [if_pos h0]; exact Lib.hid rfl
    rw [HV.out]
    obtain rfl : s = ⟨#[72, 84, 84, 80, 47, 49, 46, 48]⟩ := str_eq h0
    clear h0 HV
    go_enter Tryd.func34, Tryd.ntmps34
    go_wp2_with fail
    go_ret2
    exact ⟨rfl, rfl⟩
  · by_cases h1 : s.data.toList = St.http1
    · have HV : Hid (St.minorOf s.data.toList = 1) := by unfold St.minorOf; rw [if_neg h0, if_pos h1]; exact Lib.hid rfl
      rw [HV.out]
      obtain rfl : s = ⟨#[72, 84, 84, 80, 47, 49, 46, 49]⟩ := str_eq h1
      clear h0 h1 HV
      go_enter Tryd.func34, Tryd.ntmps34
      go_wp2_with fail
      go_ret2
      exact ⟨rfl, rfl⟩
    · have HV : Hid (St.minorOf s.data.toList = -1) := by unfold St.minorOf; rw [if_neg h0, if_neg h1]; exact Lib.hid rfl
      rw [HV.out]
      obtain ⟨n1, n2, n3⟩ := list_no (a := s) (l := [72, 84, 84, 80, 47, 49, 46, 48]) h0
      obtain ⟨m1, m2, m3⟩ := list_no (a := s) (l := [72, 84, 84, 80, 47, 49, 46, 49]) h1
      clear h0 h1 HV
      go_enter Tryd.func34, Tryd.ntmps34
      go_wp2_with fail
      go_ret2
      exact ⟨rfl, rfl⟩

set_option maxHeartbeats 1600000 in
theorem visible_s (s : ByteArray) (w : World) (hs : s.size ≤ 1000000) :
    Calls Tryd.prog 43 #[.string s] w fun e w' => e = .returned (.bool (s.data.toList.all St.vis)) ∧ w = w' := by
  have HR : Hid (s.data.toList.all St.vis = Oct.allOf St.vis s.data.toList) := Lib.hid rfl
  generalize s.data.toList.all St.vis = Z at *
  go_enter Tryd.func43, Tryd.ntmps43
  go_wp2_with fail
  go_loop [6] (fun i => ∃ k : Nat, k ≤ s.size ∧ i = .int .i64 k ∧ Hid (Oct.allOf St.vis (s.data.toList.take k) = true)) (fun i => s.size - (intOf i).toNat)
  case atStart => exact ⟨0, by omega, rfl, Lib.hid rfl⟩
  case round =>
    obtain ⟨k, hk, rfl, HA⟩ := hrel
    by_cases hlt : k < s.size
    · have hki : (k : Int) < s.size := by omega
      have HN := Lib.hid (Oct.all_snoc St.vis s k hlt)
      have HM := Lib.hid (Oct.all_miss St.vis s k hlt)
      have HI := Lib.hid (vis_int s[k])
      have hc := s[k].toNat_lt
      have hr : (s[k].toNat : Int) < 33 ∨ (33 ≤ (s[k].toNat : Int) ∧ (s[k].toNat : Int) ≤ 126) ∨ 126 < (s[k].toNat : Int) := by omega
      rcases hr with h1 | ⟨h1, h2⟩ | h1
      · have HF : Hid (Z = false) := by
          rw [HR.out, HM.out (by rw [HI.out, decide_eq_false (by omega), Bool.false_and])]; exact Lib.hid rfl
        clear HN HM HI
        go_wp2_with fail
        go_ret
        exact ⟨ret_bool HF.out.symm, rfl⟩
      · have HA2 : Hid (Oct.allOf St.vis (s.data.toList.take (k + 1)) = true) := by
          rw [HN.out, HA.out, HI.out, decide_eq_true h1, decide_eq_true h2]; exact Lib.hid rfl
        clear HN HM HI
        go_wp2_with fail
        go_round
        case rel => exact ⟨k + 1, by omega, by go_num, HA2⟩
        case measure => simp [intOf]; omega
      · have HF : Hid (Z = false) := by
          rw [HR.out, HM.out (by rw [HI.out, decide_eq_false (p := (s[k].toNat : Int) ≤ 126) (by omega), Bool.and_false])]; exact Lib.hid rfl
        have h33 : ¬ ((s[k].toNat : Int) < 33) := by omega
        clear HN HM HI
        go_wp2_with fail
        go_ret
        exact ⟨ret_bool HF.out.symm, rfl⟩
    · have hki : ¬ ((k : Int) < s.size) := by omega
      have HE := Lib.hid (Oct.take_all s k (by omega))
      have HF : Hid (Z = true) := by
        rw [HR.out, ← HE.out, HA.out]; exact Lib.hid rfl
      clear HE
      go_wp2_with fail
      go_ret
      exact ⟨ret_bool HF.out.symm, rfl⟩

/-! What a line's pieces say. -/
theorem results_cell_one {fn : Func} {p u : Tmp} {ty : TypeId} (h : fn.results = #[.cell p ty, .tmp u]) (tmps : Array Value) (P : Program) (w : World) :
    (results fn tmps).run P w =
      ((asAddr (tmps.getD p undef)).run P w).andThen fun a w₁ => ((loadVar ty a).run P w₁).andThen fun x w₂ => .ok (.tuple #[x, tmps.getD u undef]) w₂ := by
  simp only [results, h]
  simp [Sem.run_bind, Result.andThen]
/-- A line and one thing more are handed back. -/
theorem ret_line {fn : Func} {p u : Tmp} (h : fn.results = #[.cell p 25, .tmp u]) {R : Ending → World → Prop} {a : Act} {w : World} (g : Nat) (x1 x2 x3 x4 x5 : Value)
    (hp : a.tmps.getD p undef = .pointer (some ⟨g, 0, none⟩)) (hg : w.heap[g]? = some (.cells #[x1, x2, x3, x4, x5] 25 (0, 0))) (hd : a.defers = []) (hR : R (.returned (.tuple #[.agg #[x1, x2, x3, x4, x5], a.tmps.getD u undef])) w) : bodyPost Tryd.prog fn R .ret a w := by
  refine bodyPost_ret (v := .tuple #[.agg #[x1, x2, x3, x4, x5], a.tmps.getD u undef]) ?_ hd hR
  have e := run_loadVar_row (P := Tryd.prog) w g 25 25 #[x1, x2, x3, x4, x5] (0, 0) _ hg Tryd.underlying25 rfl (by kernel_rfl)
  rw [results_cell_one h, hp]
  simp [Result.andThen, asAddr, e]
/-- A line, and whether it is one. -/
def rval (x : St.S × Bool) : Value := .tuple #[sval x.1, .bool x.2]

set_option maxHeartbeats 1600000 in
set_option maxRecDepth 100000 in
theorem asked_s (a b c : ByteArray) (w : World) (ha : a.size ≤ 1000000) (hb : b.size ≤ 1000000) :
    Calls Tryd.prog 18 #[.string a, .string b, .string c] w fun e w' => e = .returned (rval (St.rdQ a.data.toList b.data.toList c.data.toList)) ∧ Below w.heap.size w w' := by
  have h0 := SAt.start w (.string ⟨#[]⟩) (.string ⟨#[]⟩) (.int .i64 0) (.string ⟨#[]⟩) (.int .i64 0)
  have cM := fun (W : World) => minorOf_s c W
  have cA := fun (W : World) => Clone_s a W ha
  have cB := fun (W : World) => Clone_s b W hb
  have HR : Hid (rval (St.rdQ a.data.toList b.data.toList c.data.toList) = .tuple #[.agg #[.string a, .string b, .int .i64 0, .string ⟨#[]⟩, .int .i64 (if St.minorOf c.data.toList < 0 then 0 else St.minorOf c.data.toList)], .bool (decide (0 ≤ St.minorOf c.data.toList))]) := Lib.hid (by
    unfold rval St.rdQ
    simp only [sval_s, str_of]; rfl)
  generalize rval (St.rdQ a.data.toList b.data.toList c.data.toList) = Z at *
  generalize decide (0 ≤ St.minorOf c.data.toList) = ok at *
  generalize (if St.minorOf c.data.toList < 0 then 0 else St.minorOf c.data.toList) = k at *
  clear ha hb
  go_enter Tryd.func18, Tryd.ntmps18
  go_upto_region 1 with fail
  generalize w.alloc _ = W0 at h0 ⊢
  go_wp2_with fail
  refine (cM _).mono ?_
  rintro e W1 ⟨rfl, rfl⟩
  go_wp2_with fail
  refine (cA _).mono ?_
  rintro e W2 ⟨rfl, hb2⟩
  have h2 := h0.later hb2
  clear hb2
  go_wp2_with fail
  refine (cB _).mono ?_
  rintro e W3 ⟨rfl, hb3⟩
  have h3 := h2.later hb3
  clear hb3 h0
  go_wp2_with (refine stS h3 rfl (.tmp 6) (.tmp 20) rfl _ _ _ _ _ rfl rfl ?_; intro W9 h9 _)
  (try simp only [Exit.inBlock, Exit.then])
  refine ret_line rfl w.heap.size _ _ _ _ _ rfl h9.cell rfl ?_
  exact ⟨by rw [HR.out]; rfl, h9.below⟩

set_option maxHeartbeats 1600000 in
set_option maxRecDepth 100000 in
theorem answered_s (a b c : ByteArray) (w : World) (hb : b.size ≤ 1000000) (hc : c.size ≤ 1000000) :
    Calls Tryd.prog 24 #[.string a, .string b, .string c] w fun e w' => e = .returned (rval (St.rdA a.data.toList b.data.toList c.data.toList)) ∧ Below w.heap.size w w' := by
  have h0 := SAt.start w (.string ⟨#[]⟩) (.string ⟨#[]⟩) (.int .i64 0) (.string ⟨#[]⟩) (.int .i64 0)
  have cM := fun (W : World) => minorOf_s a W
  obtain ⟨n, er, hn⟩ : ∃ n er, Oct.number 10 999 b.data.toList = (n, er) := ⟨_, _, rfl⟩
  have cN := fun (W : World) => Number_is b 999 n er W hb (by omega) (by omega) hn
  have cC := fun (W : World) => Clone_s c W hc
  have hz : b.data.toList.length = b.size := Oct.length_size b
  have HR : Hid (rval (St.rdA a.data.toList b.data.toList c.data.toList) = if 0 ≤ St.minorOf a.data.toList ∧ er = 0 ∧ (b.size : Int) = 3 then .tuple #[.agg #[.string ⟨#[]⟩, .string ⟨#[]⟩, .int .i64 n, .string c, .int .i64 (if St.minorOf a.data.toList < 0 then 0 else St.minorOf a.data.toList)], .bool true] else .tuple #[.agg #[.string ⟨#[]⟩, .string ⟨#[]⟩, .int .i64 0, .string ⟨#[]⟩, .int .i64 0], .bool false]) := Lib.hid (by
    unfold rval St.rdA
    rw [hn, hz]
    by_cases h : 0 ≤ St.minorOf a.data.toList ∧ er = 0 ∧ b.size = 3
    · rw [if_pos h, if_pos ⟨h.1, h.2.1, by omega⟩, if_neg (by omega)]
      simp only [sval_s, str_of]; rfl
    · rw [if_neg h, if_neg (fun g => h ⟨g.1, g.2.1, by omega⟩)]
      rfl)
  generalize rval (St.rdA a.data.toList b.data.toList c.data.toList) = Z at *
  obtain ⟨ok, hok⟩ : ∃ ok, decide (0 ≤ St.minorOf a.data.toList) = ok := ⟨_, rfl⟩
  simp only [hok] at cM
  generalize (if St.minorOf a.data.toList < 0 then 0 else St.minorOf a.data.toList) = k at *
  clear hn hz hb hc
  cases ok with
  | false =>
    have HZ : Hid (Z = _) := Lib.hid (HR.out.trans (if_neg (fun h => of_decide_eq_false hok h.1)))
    clear HR hok
    go_enter Tryd.func24, Tryd.ntmps24
    go_upto_region 1 with fail
    generalize w.alloc _ = W0 at h0 ⊢
    go_wp2_with fail
    refine (cM _).mono ?_
    rintro e W1 ⟨rfl, rfl⟩
    go_wp2_with fail
    refine (cN _).mono ?_
    rintro e W2 ⟨rfl, hb2⟩
    have h2 := h0.later hb2
    clear hb2
    go_wp2_with (refine stS h2 rfl (.tmp 6) (.tmp 33) rfl _ _ _ _ _ rfl rfl ?_; intro W9 h9 _)
    (try simp only [Exit.inBlock, Exit.then])
    refine ret_line rfl w.heap.size _ _ _ _ _ rfl h9.cell rfl ?_
    exact ⟨by rw [HZ.out]; rfl, h9.below⟩
  | true =>
    by_cases he : er = 0
    · subst he
      by_cases h3 : (b.size : Int) = 3
      · have HZ : Hid (Z = _) := Lib.hid (HR.out.trans (if_pos ⟨of_decide_eq_true hok, rfl, h3⟩))
        clear HR hok
        have b3 : ((b.size : Int) != 3) = false := by rw [bne, h3]; rfl
        clear h3
        go_enter Tryd.func24, Tryd.ntmps24
        go_upto_region 1 with fail
        generalize w.alloc _ = W0 at h0 ⊢
        go_wp2_with fail
        refine (cM _).mono ?_
        rintro e W1 ⟨rfl, rfl⟩
        go_wp2_with fail
        refine (cN _).mono ?_
        rintro e W2 ⟨rfl, hb2⟩
        have h2 := h0.later hb2
        clear hb2
        go_wp2_with fail
        refine (cC _).mono ?_
        rintro e W3 ⟨rfl, hb3⟩
        have h3 := h2.later hb3
        clear hb3
        go_wp2_with (refine stS h3 rfl (.tmp 6) (.tmp 38) rfl _ _ _ _ _ rfl rfl ?_; intro W9 h9 _)
        (try simp only [Exit.inBlock, Exit.then])
        refine ret_line rfl w.heap.size _ _ _ _ _ rfl h9.cell rfl ?_
        exact ⟨by rw [HZ.out]; rfl, h9.below⟩
      · have HZ : Hid (Z = _) := Lib.hid (HR.out.trans (if_neg (fun h => h3 h.2.2)))
        have b3 : ((b.size : Int) != 3) = true := by rw [bne, beq_eq_false_iff_ne.2 h3]; rfl
        clear HR hok
        go_enter Tryd.func24, Tryd.ntmps24
        go_upto_region 1 with fail
        generalize w.alloc _ = W0 at h0 ⊢
        go_wp2_with fail
        refine (cM _).mono ?_
        rintro e W1 ⟨rfl, rfl⟩
        go_wp2_with fail
        refine (cN _).mono ?_
        rintro e W2 ⟨rfl, hb2⟩
        have h2 := h0.later hb2
        clear hb2
        go_wp2_with (refine stS h2 rfl (.tmp 6) (.tmp 33) rfl _ _ _ _ _ rfl rfl ?_; intro W9 h9 _)
        (try simp only [Exit.inBlock, Exit.then])
        refine ret_line rfl w.heap.size _ _ _ _ _ rfl h9.cell rfl ?_
        exact ⟨by rw [HZ.out]; rfl, h9.below⟩
    · have HZ : Hid (Z = _) := Lib.hid (HR.out.trans (if_neg (fun h => he h.2.1)))
      have be : (er != 0) = true := by rw [bne, beq_eq_false_iff_ne.2 he]; rfl
      clear HR hok
      go_enter Tryd.func24, Tryd.ntmps24
      go_upto_region 1 with fail
      generalize w.alloc _ = W0 at h0 ⊢
      go_wp2_with fail
      refine (cM _).mono ?_
      rintro e W1 ⟨rfl, rfl⟩
      go_wp2_with fail
      refine (cN _).mono ?_
      rintro e W2 ⟨rfl, hb2⟩
      have h2 := h0.later hb2
      clear hb2
      go_wp2_with (refine stS h2 rfl (.tmp 6) (.tmp 33) rfl _ _ _ _ _ rfl rfl ?_; intro W9 h9 _)
      (try simp only [Exit.inBlock, Exit.then])
      refine ret_line rfl w.heap.size _ _ _ _ _ rfl h9.cell rfl ?_
      exact ⟨by rw [HZ.out]; rfl, h9.below⟩
end Go.Proofs.YtbpghbbcghlcaaaDoor
