/- What lies below, out of the texts of the layers under this one: StP1, StP2, StP4, StP5. -/
import Derived.Test.YtlbjjeonchcgbaaGreatDoorCkBase
import Derived.Test.YtlbjjeonchcgbaaGreatDoorStMathP
import Derived.Lib.BytesEntry
import Derived.Deep.RegionHeld3
namespace Go.Proofs.YtlbjjeonchcgbaaGreatDoor
open Go.RowKit

set_option maxHeartbeats 800000 in
theorem minorOf_s (s : ByteArray) (w : World) :
    Calls Tryz.prog 133 #[.string s] w fun e w' => e = .returned (.tuple #[.int .i64 (if St.minorOf s.data.toList < 0 then 0 else St.minorOf s.data.toList), .bool (decide (0 ≤ St.minorOf s.data.toList))]) ∧ w = w' := by
  by_cases h0 : s.data.toList = St.http0
  · have HV : Hid (St.minorOf s.data.toList = 0) := by unfold St.minorOf; rw [if_pos h0]; exact Lib.hid rfl
    rw [HV.out]
    obtain rfl : s = ⟨#[72, 84, 84, 80, 47, 49, 46, 48]⟩ := str_eq h0
    clear h0 HV
    go_enter Tryz.func133, Tryz.ntmps133
    go_wp2_with fail
    go_ret2
    exact ⟨rfl, rfl⟩
  · by_cases h1 : s.data.toList = St.http1
    · have HV : Hid (St.minorOf s.data.toList = 1) := by unfold St.minorOf; rw [if_neg h0, if_pos h1]; exact Lib.hid rfl
      rw [HV.out]
      obtain rfl : s = ⟨#[72, 84, 84, 80, 47, 49, 46, 49]⟩ := str_eq h1
      clear h0 h1 HV
      go_enter Tryz.func133, Tryz.ntmps133
      go_wp2_with fail
      go_ret2
      exact ⟨rfl, rfl⟩
    · have HV : Hid (St.minorOf s.data.toList = -1) := by unfold St.minorOf; rw [if_neg h0, if_neg h1]; exact Lib.hid rfl
      rw [HV.out]
      obtain ⟨n1, n2, n3⟩ := list_no (a := s) (l := [72, 84, 84, 80, 47, 49, 46, 48]) h0
      obtain ⟨m1, m2, m3⟩ := list_no (a := s) (l := [72, 84, 84, 80, 47, 49, 46, 49]) h1
      clear h0 h1 HV
      go_enter Tryz.func133, Tryz.ntmps133
      go_wp2_with fail
      go_ret2
      exact ⟨rfl, rfl⟩

set_option maxHeartbeats 1600000 in
theorem visible_s (s : ByteArray) (w : World) (hs : s.size ≤ 1000000) :
    Calls Tryz.prog 88 #[.string s] w fun e w' => e = .returned (.bool (s.data.toList.all St.vis)) ∧ w = w' := by
  have HR : Hid (s.data.toList.all St.vis = Oct.allOf St.vis s.data.toList) := Lib.hid rfl
  generalize s.data.toList.all St.vis = Z at *
  go_enter Tryz.func88, Tryz.ntmps88
  go_wp2_with fail
  go_loop [6] (fun i => ∃ k : Nat, k ≤ s.size ∧ i = .int .i64 k ∧ Hid (Oct.allOf St.vis (s.data.toList.take k) = true)) (fun i => s.size - (intOf i).toNat)
  case atStart => exact ⟨0, by omega, rfl, Lib.hid rfl⟩
  case round =>
    obtain ⟨k, hk, rfl, HA⟩ := hrel
    by_cases hlt : k < s.size
    · have hki : (k : Int) < s.size := by omega
      have HN := Lib.hid (Oct.all_snoc St.vis s k hlt)
      have HM := Lib.hid (Oct.all_miss St.vis s k hlt)
      have HI := Lib.hid (vis_int s[k])
      have hc := s[k].toNat_lt
      have hr : (s[k].toNat : Int) < 33 ∨ (33 ≤ (s[k].toNat : Int) ∧ (s[k].toNat : Int) ≤ 126) ∨ 126 < (s[k].toNat : Int) := by omega
      rcases hr with h1 | ⟨h1, h2⟩ | h1
      · have HF : Hid (Z = false) := by
          rw [HR.out, HM.out (by rw [HI.out, decide_eq_false (by omega), Bool.false_and])]; exact Lib.hid rfl
        clear HN HM HI
        go_wp2_with fail
        go_ret
        exact ⟨ret_bool HF.out.symm, rfl⟩
      · have HA2 : Hid (Oct.allOf St.vis (s.data.toList.take (k + 1)) = true) := by
          rw [HN.out, HA.out, HI.out, decide_eq_true h1, decide_eq_true h2]; exact Lib.hid rfl
        clear HN HM HI
        go_wp2_with fail
        go_round
        case rel => exact ⟨k + 1, by omega, by go_num, HA2⟩
        case measure => simp [intOf]; omega
      · have HF : Hid (Z = false) := by
          rw [HR.out, HM.out (by rw [HI.out, decide_eq_false (p := (s[k].toNat : Int) ≤ 126) (by omega), Bool.and_false])]; exact Lib.hid rfl
        have h33 : ¬ ((s[k].toNat : Int) < 33) := by omega
        clear HN HM HI
        go_wp2_with fail
        go_ret
        exact ⟨ret_bool HF.out.symm, rfl⟩
    · have hki : ¬ ((k : Int) < s.size) := by omega
      have HE := Lib.hid (Oct.take_all s k (by omega))
      have HF : Hid (Z = true) := by
        rw [HR.out, ← HE.out, HA.out]; exact Lib.hid rfl
      clear HE
      go_wp2_with fail
      go_ret
      exact ⟨ret_bool HF.out.symm, rfl⟩

/-! What a line's pieces say. -/
theorem results_cell_one {fn : Func} {p u : Tmp} {ty : TypeId} (h : fn.results = #[.cell p ty, .tmp u]) (tmps : Array Value) (P : Program) (w : World) :
    (results fn tmps).run P w =
      ((asAddr (tmps.getD p undef)).run P w).andThen fun a w₁ => ((loadVar ty a).run P w₁).andThen fun x w₂ => .ok (.tuple #[x, tmps.getD u undef]) w₂ := by
  simp only [results, h]
  simp [Sem.run_bind, Result.andThen]
/-- A line and one thing more are handed back. -/
theorem ret_line {fn : Func} {p u : Tmp} (h : fn.results = #[.cell p 25, .tmp u]) {R : Ending → World → Prop} {a : Act} {w : World} (g : Nat) (x1 x2 x3 x4 x5 : Value)
    (hp : a.tmps.getD p undef = .pointer (some ⟨g, 0, none⟩)) (hg : w.heap[g]? = some (.cells #[x1, x2, x3, x4, x5] 25 (0, 0))) (hd : a.defers = []) (hR : R (.returned (.tuple #[.agg #[x1, x2, x3, x4, x5], a.tmps.getD u undef])) w) : bodyPost Tryz.prog fn R .ret a w := by
  refine bodyPost_ret (v := .tuple #[.agg #[x1, x2, x3, x4, x5], a.tmps.getD u undef]) ?_ hd hR
  have e := run_loadVar_row (P := Tryz.prog) w g 25 25 #[x1, x2, x3, x4, x5] (0, 0) _ hg Tryz.underlying25 rfl (by kernel_rfl)
  rw [results_cell_one h, hp]
  simp [Result.andThen, asAddr, e]
/-- A line, and whether it is one. -/
def rval (x : St.S × Bool) : Value := .tuple #[sval x.1, .bool x.2]

set_option maxHeartbeats 1600000 in
set_option maxRecDepth 100000 in
theorem asked_s (a b c : ByteArray) (w : World) (ha : a.size ≤ 1000000) (hb : b.size ≤ 1000000) :
    Calls Tryz.prog 109 #[.string a, .string b, .string c] w fun e w' => e = .returned (rval (St.rdQ a.data.toList b.data.toList c.data.toList)) ∧ Below w.heap.size w w' := by
  have h0 := SAt.start w (.string ⟨#[]⟩) (.string ⟨#[]⟩) (.int .i64 0) (.string ⟨#[]⟩) (.int .i64 0)
  have cM := fun (W : World) => minorOf_s c W
  have cA := fun (W : World) => Clone_s a W ha
  have cB := fun (W : World) => Clone_s b W hb
  have HR : Hid (rval (St.rdQ a.data.toList b.data.toList c.data.toList) = .tuple #[.agg #[.string a, .string b, .int .i64 0, .string ⟨#[]⟩, .int .i64 (if St.minorOf c.data.toList < 0 then 0 else St.minorOf c.data.toList)], .bool (decide (0 ≤ St.minorOf c.data.toList))]) := Lib.hid (by
    unfold rval St.rdQ
    simp only [sval_s, str_of]; rfl)
  generalize rval (St.rdQ a.data.toList b.data.toList c.data.toList) = Z at *
  generalize decide (0 ≤ St.minorOf c.data.toList) = ok at *
  generalize (if St.minorOf c.data.toList < 0 then 0 else St.minorOf c.data.toList) = k at *
  clear ha hb
  go_enter Tryz.func109, Tryz.ntmps109
  go_upto_region 1 with fail
  generalize w.alloc _ = W0 at h0 ⊢
  go_wp2_with fail
  refine (cM _).mono ?_
  rintro e W1 ⟨rfl, rfl⟩
  go_wp2_with fail
  refine (cA _).mono ?_
  rintro e W2 ⟨rfl, hb2⟩
  have h2 := h0.later hb2
  clear hb2
  go_wp2_with fail
  refine (cB _).mono ?_
  rintro e W3 ⟨rfl, hb3⟩
  have h3 := h2.later hb3
  clear hb3 h0
  go_wp2_with (refine stS h3 rfl (.tmp 6) (.tmp 20) rfl _ _ _ _ _ rfl rfl ?_; intro W9 h9 _)
  (try simp only [Exit.inBlock, Exit.then])
  refine ret_line rfl w.heap.size _ _ _ _ _ rfl h9.cell rfl ?_
  exact ⟨by rw [HR.out]; rfl, h9.below⟩

set_option maxHeartbeats 1600000 in
set_option maxRecDepth 100000 in
theorem answered_s (a b c : ByteArray) (w : World) (hb : b.size ≤ 1000000) (hc : c.size ≤ 1000000) :
    Calls Tryz.prog 108 #[.string a, .string b, .string c] w fun e w' => e = .returned (rval (St.rdA a.data.toList b.data.toList c.data.toList)) ∧ Below w.heap.size w w' := by
  have h0 := SAt.start w (.string ⟨#[]⟩) (.string ⟨#[]⟩) (.int .i64 0) (.string ⟨#[]⟩) (.int .i64 0)
  have cM := fun (W : World) => minorOf_s a W
  obtain ⟨n, er, hn⟩ : ∃ n er, Oct.number 10 999 b.data.toList = (n, er) := ⟨_, _, rfl⟩
  have cN := fun (W : World) => Number_is b 999 n er W hb (by omega) (by omega) hn
  have cC := fun (W : World) => Clone_s c W hc
  have hz : b.data.toList.length = b.size := Oct.length_size b
  have HR : Hid (rval (St.rdA a.data.toList b.data.toList c.data.toList) = if 0 ≤ St.minorOf a.data.toList ∧ er = 0 ∧ (b.size : Int) = 3 then .tuple #[.agg #[.string ⟨#[]⟩, .string ⟨#[]⟩, .int .i64 n, .string c, .int .i64 (if St.minorOf a.data.toList < 0 then 0 else St.minorOf a.data.toList)], .bool true] else .tuple #[.agg #[.string ⟨#[]⟩, .string ⟨#[]⟩, .int .i64 0, .string ⟨#[]⟩, .int .i64 0], .bool false]) := Lib.hid (by
    unfold rval St.rdA
    rw [hn, hz]
    by_cases h : 0 ≤ St.minorOf a.data.toList ∧ er = 0 ∧ b.size = 3
    · rw [if_pos h, if_pos ⟨h.1, h.2.1, by omega⟩, if_neg (by omega)]
      simp only [sval_s, str_of]; rfl
    · rw [if_neg h, if_neg (fun g => h ⟨g.1, g.2.1, by omega⟩)]
      rfl)
  generalize rval (St.rdA a.data.toList b.data.toList c.data.toList) = Z at *
  obtain ⟨ok, hok⟩ : ∃ ok, decide (0 ≤ St.minorOf a.data.toList) = ok := ⟨_, rfl⟩
  simp only [hok] at cM
  generalize (if St.minorOf a.data.toList < 0 then 0 else St.minorOf a.data.toList) = k at *
  clear hn hz hb hc
  cases ok with
  | false =>
    have HZ : Hid (Z = _) := Lib.hid (HR.out.trans (if_neg (fun h => of_decide_eq_false hok h.1)))
    clear HR hok
    go_enter Tryz.func108, Tryz.ntmps108
    go_upto_region 1 with fail
    generalize w.alloc _ = W0 at h0 ⊢
    go_wp2_with fail
    refine (cM _).mono ?_
    rintro e W1 ⟨rfl, rfl⟩
    go_wp2_with fail
    refine (cN _).mono ?_
    rintro e W2 ⟨rfl, hb2⟩
    have h2 := h0.later hb2
    clear hb2
    go_wp2_with (refine stS h2 rfl (.tmp 6) (.tmp 33) rfl _ _ _ _ _ rfl rfl ?_; intro W9 h9 _)
    (try simp only [Exit.inBlock, Exit.then])
    refine ret_line rfl w.heap.size _ _ _ _ _ rfl h9.cell rfl ?_
    exact ⟨by rw [HZ.out]; rfl, h9.below⟩
  | true =>
    by_cases he : er = 0
    · subst he
      by_cases h3 : (b.size : Int) = 3
      · have HZ : Hid (Z = _) := Lib.hid (HR.out.trans (if_pos ⟨of_decide_eq_true hok, rfl, h3⟩))
        clear HR hok
        have b3 : ((b.size : Int) != 3) = false := by rw [bne, h3]; rfl
        clear h3
        go_enter Tryz.func108, Tryz.ntmps108
        go_upto_region 1 with fail
        generalize w.alloc _ = W0 at h0 ⊢
        go_wp2_with fail
        refine (cM _).mono ?_
        rintro e W1 ⟨rfl, rfl⟩
        go_wp2_with fail
        refine (cN _).mono ?_
        rintro e W2 ⟨rfl, hb2⟩
        have h2 := h0.later hb2
        clear hb2
        go_wp2_with fail
        refine (cC _).mono ?_
        rintro e W3 ⟨rfl, hb3⟩
        have h3 := h2.later hb3
        clear hb3
        go_wp2_with (refine stS h3 rfl (.tmp 6) (.tmp 38) rfl _ _ _ _ _ rfl rfl ?_; intro W9 h9 _)
        (try simp only [Exit.inBlock, Exit.then])
        refine ret_line rfl w.heap.size _ _ _ _ _ rfl h9.cell rfl ?_
        exact ⟨by rw [HZ.out]; rfl, h9.below⟩
      · have HZ : Hid (Z = _) := Lib.hid (HR.out.trans (if_neg (fun h => h3 h.2.2)))
        have b3 : ((b.size : Int) != 3) = true := by rw [bne, beq_eq_false_iff_ne.2 h3]; rfl
        clear HR hok
        go_enter Tryz.func108, Tryz.ntmps108
        go_upto_region 1 with fail
        generalize w.alloc _ = W0 at h0 ⊢
        go_wp2_with fail
        refine (cM _).mono ?_
        rintro e W1 ⟨rfl, rfl⟩
        go_wp2_with fail
        refine (cN _).mono ?_
        rintro e W2 ⟨rfl, hb2⟩
        have h2 := h0.later hb2
        clear hb2
        go_wp2_with (refine stS h2 rfl (.tmp 6) (.tmp 33) rfl _ _ _ _ _ rfl rfl ?_; intro W9 h9 _)
        (try simp only [Exit.inBlock, Exit.then])
        refine ret_line rfl w.heap.size _ _ _ _ _ rfl h9.cell rfl ?_
        exact ⟨by rw [HZ.out]; rfl, h9.below⟩
    · have HZ : Hid (Z = _) := Lib.hid (HR.out.trans (if_neg (fun h => he h.2.1)))
      have be : (er != 0) = true := by rw [bne, beq_eq_false_iff_ne.2 he]; rfl
      clear HR hok
      go_enter Tryz.func108, Tryz.ntmps108
      go_upto_region 1 with fail
      generalize w.alloc _ = W0 at h0 ⊢
      go_wp2_with fail
      refine (cM _).mono ?_
      rintro e W1 ⟨rfl, rfl⟩
      go_wp2_with fail
      refine (cN _).mono ?_
      rintro e W2 ⟨rfl, hb2⟩
      have h2 := h0.later hb2
      clear hb2
      go_wp2_with (refine stS h2 rfl (.tmp 6) (.tmp 33) rfl _ _ _ _ _ rfl rfl ?_; intro W9 h9 _)
      (try simp only [Exit.inBlock, Exit.then])
      refine ret_line rfl w.heap.size _ _ _ _ _ rfl h9.cell rfl ?_
      exact ⟨by rw [HZ.out]; rfl, h9.below⟩
end Go.Proofs.YtlbjjeonchcgbaaGreatDoor

namespace Go.Proofs.YtlbjjeonchcgbaaGreatDoor
open Go.RowKit

theorem long_dec (l : List UInt8) (n : Nat) : decide (n < l.length) = decide ((n : Int) < ((str l).size : Int)) := by
  rw [str_size]; exact decide_eq_decide.2 (by omega)
set_option maxHeartbeats 3200000 in
set_option maxRecDepth 100000 in
theorem formed_s (s : St.S) (w : World) (h1 : s.method.length ≤ 1000000) (h2 : s.target.length ≤ 1000000) (h3 : s.reason.length ≤ 1000000) :
    Calls Tryz.prog 68 #[sval s] w fun e w' => e = .returned (.bool (St.formed s)) ∧ Below w.heap.size w w' := by
  rw [sval_s]
  have h0 := SAt.start w (.string (str s.method)) (.string (str s.target)) (.int .i64 s.status) (.string (str s.reason)) (.int .i64 s.minor)
  have cT := fun (W : World) => Token_s (str s.method) W (by rw [str_size]; omega)
  have cV := fun (W : World) => visible_s (str s.target) W (by rw [str_size]; omega)
  have cX := fun (W : World) => Value_s (str s.reason) W (by rw [str_size]; omega)
  rw [str_list] at cT cV cX
  obtain ⟨m, t, st, r, k⟩ := s
  simp only [] at *
  have HV : Hid (St.formed ⟨m, t, st, r, k⟩ = (decide (0 ≤ k) && decide (k ≤ 1) && (if st = 0 then Oct.token m && !decide (str t = (⟨#[]⟩ : ByteArray)) && t.all St.vis && decide (str r = (⟨#[]⟩ : ByteArray))
      else decide (str m = (⟨#[]⟩ : ByteArray)) && decide (str t = (⟨#[]⟩ : ByteArray)) && decide (100 ≤ st) && decide (st ≤ 999) && Oct.value r))) := Lib.hid (by
    show (_ && _ && (if st = 0 then St.formedQ _ else St.formedA _)) = _
    unfold St.formedQ St.formedA
    simp only [empty_dec])
  generalize St.formed ⟨m, t, st, r, k⟩ = Z at *
  generalize Oct.token m = tk at *
  generalize t.all St.vis = vs at *
  generalize Oct.value r = vl at *
  generalize str m = M at *
  generalize str t = T at *
  generalize str r = D at *
  generalize st = C at *
  generalize k = K at *
  clear h1 h2 h3
  by_cases k0 : 0 ≤ K
  · by_cases k1 : K ≤ 1
    · by_cases z : C = 0
      · subst z
        cases tk with
        | false =>
          have HR : Hid (Z = false) := Lib.hid (HV.out.trans (by simp [*]))
          clear HV
          go_enter Tryz.func68, Tryz.ntmps68
          go_upto_region 1 with fail
          generalize w.alloc _ = W0 at h0 ⊢
          obtain ⟨c0, c1, c2, c3, c4⟩ := h0.cells
          have hB0 := h0.below
          go_wp2_with fail
          refine (cT _).mono ?_
          rintro e W1 ⟨rfl, rfl⟩
          go_wp2_with fail
          go_ret
          exact ⟨ret_bool (by rw [HR.out] <;> simp [*]), hB0⟩
        | true =>
          cases Te : decide (T = (⟨#[]⟩ : ByteArray)) with
          | true =>
            obtain rfl : T = ⟨#[]⟩ := of_decide_eq_true Te
            clear Te
            have HR : Hid (Z = false) := Lib.hid (HV.out.trans (by simp [*]))
            clear HV
            go_enter Tryz.func68, Tryz.ntmps68
            go_upto_region 1 with fail
            generalize w.alloc _ = W0 at h0 ⊢
            obtain ⟨c0, c1, c2, c3, c4⟩ := h0.cells
            have hB0 := h0.below
            go_wp2_with fail
            refine (cT _).mono ?_
            rintro e W1 ⟨rfl, rfl⟩
            go_wp2_with fail
            go_ret
            exact ⟨ret_bool (by rw [HR.out] <;> simp [*]), hB0⟩
          | false =>
            obtain ⟨p1, p2, p3⟩ := nonempty (of_decide_eq_false Te)
            cases vs with
            | false =>
              have HR : Hid (Z = false) := Lib.hid (HV.out.trans (by simp [*]))
              clear HV
              go_enter Tryz.func68, Tryz.ntmps68
              go_upto_region 1 with fail
              generalize w.alloc _ = W0 at h0 ⊢
              obtain ⟨c0, c1, c2, c3, c4⟩ := h0.cells
              have hB0 := h0.below
              go_wp2_with fail
              refine (cT _).mono ?_
              rintro e W1 ⟨rfl, rfl⟩
              go_wp2_with fail
              refine (cV _).mono ?_
              rintro e W2 ⟨rfl, rfl⟩
              go_wp2_with fail
              go_ret
              exact ⟨ret_bool (by rw [HR.out] <;> simp [*]), hB0⟩
            | true =>
              cases De : decide (D = (⟨#[]⟩ : ByteArray)) with
              | true =>
                obtain rfl : D = ⟨#[]⟩ := of_decide_eq_true De
                clear De
                have HR : Hid (Z = true) := Lib.hid (HV.out.trans (by simp [*]))
                clear HV
                go_enter Tryz.func68, Tryz.ntmps68
                go_upto_region 1 with fail
                generalize w.alloc _ = W0 at h0 ⊢
                obtain ⟨c0, c1, c2, c3, c4⟩ := h0.cells
                have hB0 := h0.below
                go_wp2_with fail
                refine (cT _).mono ?_
                rintro e W1 ⟨rfl, rfl⟩
                go_wp2_with fail
                refine (cV _).mono ?_
                rintro e W2 ⟨rfl, rfl⟩
                go_wp2_with fail
                go_ret
                exact ⟨ret_bool (by rw [HR.out] <;> simp [*]), hB0⟩
              | false =>
                obtain ⟨n1, n2, n3⟩ := nonempty (of_decide_eq_false De)
                have HR : Hid (Z = false) := Lib.hid (HV.out.trans (by simp [*]))
                clear HV
                go_enter Tryz.func68, Tryz.ntmps68
                go_upto_region 1 with fail
                generalize w.alloc _ = W0 at h0 ⊢
                obtain ⟨c0, c1, c2, c3, c4⟩ := h0.cells
                have hB0 := h0.below
                go_wp2_with fail
                refine (cT _).mono ?_
                rintro e W1 ⟨rfl, rfl⟩
                go_wp2_with fail
                refine (cV _).mono ?_
                rintro e W2 ⟨rfl, rfl⟩
                go_wp2_with fail
                go_ret
                exact ⟨ret_bool (by rw [HR.out] <;> simp [*]), hB0⟩
      · have bz : (C == 0) = false := beq_eq_false_iff_ne.2 z
        cases Me : decide (M = (⟨#[]⟩ : ByteArray)) with
        | true =>
          obtain rfl : M = ⟨#[]⟩ := of_decide_eq_true Me
          clear Me
          cases Te : decide (T = (⟨#[]⟩ : ByteArray)) with
          | true =>
            obtain rfl : T = ⟨#[]⟩ := of_decide_eq_true Te
            clear Te
            by_cases g1 : 100 ≤ C
            · by_cases g2 : C ≤ 999
              · cases vl with
                | false =>
                  have HR : Hid (Z = false) := Lib.hid (HV.out.trans (by simp [*]))
                  clear HV
                  go_enter Tryz.func68, Tryz.ntmps68
                  go_upto_region 1 with fail
                  generalize w.alloc _ = W0 at h0 ⊢
                  obtain ⟨c0, c1, c2, c3, c4⟩ := h0.cells
                  have hB0 := h0.below
                  go_wp2_with fail
                  refine (cX _).mono ?_
                  rintro e W1 ⟨rfl, hb1⟩
                  have h1 := h0.later hb1
                  obtain ⟨d0, d1, d2, d3, d4⟩ := h1.cells
                  have hB0 := h1.below
                  clear c0 c1 c2 c3 c4 h0 h1 hb1
                  go_wp2_with fail
                  go_ret
                  exact ⟨ret_bool (by rw [HR.out] <;> simp [*]), hB0⟩
                | true =>
                  have HR : Hid (Z = true) := Lib.hid (HV.out.trans (by simp [*]))
                  clear HV
                  go_enter Tryz.func68, Tryz.ntmps68
                  go_upto_region 1 with fail
                  generalize w.alloc _ = W0 at h0 ⊢
                  obtain ⟨c0, c1, c2, c3, c4⟩ := h0.cells
                  have hB0 := h0.below
                  go_wp2_with fail
                  refine (cX _).mono ?_
                  rintro e W1 ⟨rfl, hb1⟩
                  have h1 := h0.later hb1
                  obtain ⟨d0, d1, d2, d3, d4⟩ := h1.cells
                  have hB0 := h1.below
                  clear c0 c1 c2 c3 c4 h0 h1 hb1
                  go_wp2_with fail
                  go_ret
                  exact ⟨ret_bool (by rw [HR.out] <;> simp [*]), hB0⟩
              · have HR : Hid (Z = false) := Lib.hid (HV.out.trans (by simp [*]))
                clear HV
                go_enter Tryz.func68, Tryz.ntmps68
                go_upto_region 1 with fail
                generalize w.alloc _ = W0 at h0 ⊢
                obtain ⟨c0, c1, c2, c3, c4⟩ := h0.cells
                have hB0 := h0.below
                go_wp2_with fail
                go_ret
                exact ⟨ret_bool (by rw [HR.out] <;> simp [*]), hB0⟩
            · have HR : Hid (Z = false) := Lib.hid (HV.out.trans (by simp [*]))
              clear HV
              go_enter Tryz.func68, Tryz.ntmps68
              go_upto_region 1 with fail
              generalize w.alloc _ = W0 at h0 ⊢
              obtain ⟨c0, c1, c2, c3, c4⟩ := h0.cells
              have hB0 := h0.below
              go_wp2_with fail
              go_ret
              exact ⟨ret_bool (by rw [HR.out] <;> simp [*]), hB0⟩
          | false =>
            obtain ⟨n1, n2, n3⟩ := nonempty (of_decide_eq_false Te)
            have HR : Hid (Z = false) := Lib.hid (HV.out.trans (by simp [*]))
            clear HV
            go_enter Tryz.func68, Tryz.ntmps68
            go_upto_region 1 with fail
            generalize w.alloc _ = W0 at h0 ⊢
            obtain ⟨c0, c1, c2, c3, c4⟩ := h0.cells
            have hB0 := h0.below
            go_wp2_with fail
            go_ret
            exact ⟨ret_bool (by rw [HR.out] <;> simp [*]), hB0⟩
        | false =>
          obtain ⟨n1, n2, n3⟩ := nonempty (of_decide_eq_false Me)
          have HR : Hid (Z = false) := Lib.hid (HV.out.trans (by simp [*]))
          clear HV
          go_enter Tryz.func68, Tryz.ntmps68
          go_upto_region 1 with fail
          generalize w.alloc _ = W0 at h0 ⊢
          obtain ⟨c0, c1, c2, c3, c4⟩ := h0.cells
          have hB0 := h0.below
          go_wp2_with fail
          go_ret
          exact ⟨ret_bool (by rw [HR.out] <;> simp [*]), hB0⟩
    · have HR : Hid (Z = false) := Lib.hid (HV.out.trans (by simp [*]))
      clear HV
      go_enter Tryz.func68, Tryz.ntmps68
      go_upto_region 1 with fail
      generalize w.alloc _ = W0 at h0 ⊢
      obtain ⟨c0, c1, c2, c3, c4⟩ := h0.cells
      have hB0 := h0.below
      go_wp2_with fail
      go_ret
      exact ⟨ret_bool (by rw [HR.out] <;> simp [*]), hB0⟩
  · have HR : Hid (Z = false) := Lib.hid (HV.out.trans (by simp [*]))
    clear HV
    go_enter Tryz.func68, Tryz.ntmps68
    go_upto_region 1 with fail
    generalize w.alloc _ = W0 at h0 ⊢
    obtain ⟨c0, c1, c2, c3, c4⟩ := h0.cells
    have hB0 := h0.below
    go_wp2_with fail
    go_ret
    exact ⟨ret_bool (by rw [HR.out] <;> simp [*]), hB0⟩

set_option maxHeartbeats 3200000 in
set_option maxRecDepth 100000 in
theorem long_s (s : St.S) (w : World) :
    Calls Tryz.prog 69 #[sval s] w fun e w' => e = .returned (.bool (St.long s)) ∧ Below w.heap.size w w' := by
  rw [sval_s]
  have h0 := SAt.start w (.string (str s.method)) (.string (str s.target)) (.int .i64 s.status) (.string (str s.reason)) (.int .i64 s.minor)
  obtain ⟨m, t, st, r, k⟩ := s
  simp only [] at *
  have HV : Hid (St.long ⟨m, t, st, r, k⟩ = (decide (32 < ((str m).size : Int)) || decide (8000 < ((str t).size : Int)) || decide (200 < ((str r).size : Int)))) := Lib.hid (by
    unfold St.long
    simp only [long_dec]; rfl)
  generalize St.long ⟨m, t, st, r, k⟩ = Z at *
  generalize str m = M at *
  generalize str t = T at *
  generalize str r = D at *
  by_cases g1 : 32 < (M.size : Int)
  · go_enter Tryz.func69, Tryz.ntmps69
    go_upto_region 1 with fail
    generalize w.alloc _ = W0 at h0 ⊢
    obtain ⟨c0, c1, c2, c3, c4⟩ := h0.cells
    have hB0 := h0.below
    go_wp2_with fail
    go_ret
    exact ⟨ret_bool (by rw [HV.out] <;> simp [*]), hB0⟩
  · by_cases g2 : 8000 < (T.size : Int)
    · go_enter Tryz.func69, Tryz.ntmps69
      go_upto_region 1 with fail
      generalize w.alloc _ = W0 at h0 ⊢
      obtain ⟨c0, c1, c2, c3, c4⟩ := h0.cells
      have hB0 := h0.below
      go_wp2_with fail
      go_ret
      exact ⟨ret_bool (by rw [HV.out] <;> simp [*]), hB0⟩
    · by_cases g3 : 200 < (D.size : Int)
      · go_enter Tryz.func69, Tryz.ntmps69
        go_upto_region 1 with fail
        generalize w.alloc _ = W0 at h0 ⊢
        obtain ⟨c0, c1, c2, c3, c4⟩ := h0.cells
        have hB0 := h0.below
        go_wp2_with fail
        go_ret
        exact ⟨ret_bool (by rw [HV.out] <;> simp [*]), hB0⟩
      · go_enter Tryz.func69, Tryz.ntmps69
        go_upto_region 1 with fail
        generalize w.alloc _ = W0 at h0 ⊢
        obtain ⟨c0, c1, c2, c3, c4⟩ := h0.cells
        have hB0 := h0.below
        go_wp2_with fail
        go_ret
        exact ⟨ret_bool (by rw [HV.out] <;> simp [*]), hB0⟩

set_option maxHeartbeats 3200000 in
set_option maxRecDepth 100000 in
theorem Right_s (s : St.S) (w : World) (h1 : s.method.length ≤ 1000000) (h2 : s.target.length ≤ 1000000) (h3 : s.reason.length ≤ 1000000) :
    Calls Tryz.prog 41 #[sval s] w fun e w' => e = .returned (.bool (St.right s)) ∧ Below w.heap.size w w' := by
  have h0 := SAt.start w (.string (str s.method)) (.string (str s.target)) (.int .i64 s.status) (.string (str s.reason)) (.int .i64 s.minor)
  have cF := fun (W : World) => formed_s s W h1 h2 h3
  have cL := fun (W : World) => long_s s W
  rw [sval_s] at cF cL ⊢
  have HV := Lib.hid (St.right_formed s)
  generalize St.right s = Z at *
  generalize St.formed s = fm at *
  generalize St.long s = lg at *
  generalize str s.method = M at *
  generalize str s.target = T at *
  generalize str s.reason = D at *
  generalize s.status = C at *
  generalize s.minor = K at *
  clear h1 h2 h3
  cases fm with
  | false =>
    have HR : Hid (Z = false) := Lib.hid (HV.out.trans (by simp))
    clear HV
    go_enter Tryz.func41, Tryz.ntmps41
    go_upto_region 1 with fail
    generalize w.alloc _ = W0 at h0 ⊢
    go_wp2_with (refine ldS h0.cell rfl (.tmp 1) rfl rfl ?_)
    refine (cF _).mono ?_
    rintro e W1 ⟨rfl, hb1⟩
    have hB := (h0.later hb1).below
    clear h0 hb1
    go_wp2_with fail
    go_ret
    exact ⟨ret_bool HR.out.symm, hB⟩
  | true =>
    have HR : Hid (Z = !lg) := Lib.hid (HV.out.trans (by simp))
    clear HV
    go_enter Tryz.func41, Tryz.ntmps41
    go_upto_region 1 with fail
    generalize w.alloc _ = W0 at h0 ⊢
    go_wp2_with (refine ldS h0.cell rfl (.tmp 1) rfl rfl ?_)
    refine (cF _).mono ?_
    rintro e W1 ⟨rfl, hb1⟩
    have h1 := h0.later hb1
    clear h0 hb1
    obtain ⟨c0, c1, c2, c3, c4⟩ := h1.cells
    go_wp2_with fail
    refine (cL _).mono ?_
    rintro e W2 ⟨rfl, hb2⟩
    have hB := (h1.later hb2).below
    clear h1 hb2
    go_wp2_with fail
    go_ret
    exact ⟨ret_bool (by rw [HR.out]), hB⟩
end Go.Proofs.YtlbjjeonchcgbaaGreatDoor

namespace Go.Proofs.YtlbjjeonchcgbaaGreatDoor
open Go.RowKit

set_option maxHeartbeats 1000000 in
set_option maxRecDepth 100000 in
/-- No octets, wherever they lie. -/
theorem byte_none (ao : Option Addr) (c : Nat) (w : World) : Calls Tryz.prog 130 #[.slice ao 0 c, .int .u8 10] w fun e w' => e = .returned (.int .i64 (-1)) ∧ w' = w := by
  have hrun : (Extern.BytealgIndexByte.indexByte #[.slice ao 0 c, .int .u8 10]).run Tryz.prog w = .ok (.int .i64 (-1)) w := by
    cases ao with
    | none => exact Lib.run_indexByteNil w 0 c 10
    | some a => exact Lib.run_indexByteString (P := Tryz.prog) .empty 10 w
  go_enter Tryz.func130, Tryz.ntmps130
  go_wp2
  rw [run_callFunc_extern Tryz.func148 (by kernel_rfl) (by kernel_rfl) (by kernel_rfl) (e := Extern.BytealgIndexByte.indexByte) (by kernel_rfl), hrun]
  simp only [Result.andThen]
  rw [Oper.upon_value]
  go_wp2
  go_ret
  exact ⟨rfl, rfl⟩
/-- bytes.IndexByte: an LF. -/
theorem byte_w (v : Value) (l : List UInt8) (w : World) (h : BIn w v l) : Calls Tryz.prog 130 #[v, .int .u8 10] w fun e w' => e = .returned (.int .i64 (Lib.indexByte l 10)) ∧ w = w' := by
  obtain ⟨ao, cap, rfl, h1, h2, hg⟩ := h
  rcases hg with rfl | ⟨b, o, rfl, hb, hc⟩
  · exact (byte_none ao cap w).mono fun e w' ⟨he, hw⟩ => ⟨he, hw.symm⟩
  · have := Tryz.bytes_IndexByte b o l.length cap (ints l) 10 w (by simp [ints]) (fun i hi => by
      rw [hc i hi]; simp [ints, hi])
    rw [ints_bytes] at this
    exact this.mono fun e w' ⟨he, hw⟩ => ⟨he, hw.symm⟩
/-- A line cut at its first two spaces. -/
theorem SplitN_w (s : ByteArray) (w : World) (hs : s.size ≤ 1000000) (hm : MaxOk w) :
    Calls Tryz.prog 132 #[.string s, .string ⟨#[32]⟩, .int .i64 3] w fun e w' => ∃ c, e = .returned (.slice (some ⟨w.heap.size, 0, none⟩) (St.cut3 s.data.toList).length c) ∧ (St.cut3 s.data.toList).length ≤ c ∧ (∀ (j : Nat) (x : List UInt8), (St.cut3 s.data.toList)[j]? = some x → w'.cell? ⟨w.heap.size, j, none⟩ = some (.string (str x))) ∧ Below w.heap.size w w' := by
  obtain ⟨m, hm⟩ := hm
  refine (Tryz.strings_SplitN s ⟨#[32]⟩ 3 m w (by omega) hm (Nat.le_refl 1) (by decide) (by decide)).mono ?_
  rintro e w' ⟨rfl, rfl⟩
  have hz : s.data.toList.length = s.size := Oct.length_size s
  have hd := Lib.splitB_data ⟨#[32]⟩ 0 (min 3 (s.size + 1) - 1) s
  have hc3 := St.split_cut3 s.data.toList
  rw [hz] at hc3
  have hd : (Lib.splitB ⟨#[32]⟩ 0 (min 3 (s.size + 1) - 1) s).map (·.data.toList) = St.cut3 s.data.toList := hd.trans hc3
  have hle := Lib.splitB_length_le ⟨#[32]⟩ 0 (min 3 (s.size + 1) - 1) s
  have hlen : (Lib.splitB ⟨#[32]⟩ 0 (min 3 (s.size + 1) - 1) s).length = (St.cut3 s.data.toList).length := by rw [← hd, List.length_map]
  rw [hlen] at hle ⊢
  refine ⟨_, rfl, by omega, fun j x hj => ?_, (Below.refl _ _).alloc (Nat.le_refl _) _⟩
  rw [World.cell?_alloc_at _ _ _ _ (by rfl)]
  rw [← hd, List.getElem?_map] at hj
  obtain ⟨y, hy, rfl⟩ := Option.map_eq_some_iff.1 hj
  have hlt : j < (Lib.splitB ⟨#[32]⟩ 0 (min 3 (s.size + 1) - 1) s).length := (List.getElem?_eq_some_iff.1 hy).1
  unfold Lib.cellsOf
  rw [← Array.getElem?_toList]
  simp only [List.getElem?_append_left (by simpa using hlt : j < ((Lib.splitB ⟨#[32]⟩ 0 (min 3 (s.size + 1) - 1) s).map Value.string).length), List.getElem?_map, hy, str_of]
  rfl
theorem SplitN_3 (s : ByteArray) (a b c : List UInt8) (w : World) (hs : s.size ≤ 1000000) (hm : MaxOk w) (h : St.cut3 s.data.toList = [a, b, c]) :
    Calls Tryz.prog 132 #[.string s, .string ⟨#[32]⟩, .int .i64 3] w fun e w' => ∃ n, e = .returned (.slice (some ⟨w.heap.size, 0, none⟩) 3 n) ∧ 3 ≤ n ∧ w.heap.size < w'.heap.size ∧ w'.cell? ⟨w.heap.size, 0, none⟩ = some (.string (str a)) ∧ w'.cell? ⟨w.heap.size, 1, none⟩ = some (.string (str b)) ∧ w'.cell? ⟨w.heap.size, 2, none⟩ = some (.string (str c)) ∧ Below w.heap.size w w' := by
  refine (SplitN_w s w hs hm).mono ?_
  rw [h]
  rintro e w' ⟨n, he, hn, hc, hb⟩
  have h0 := hc 0 a rfl
  exact ⟨n, he, hn, World.block_lt_of_cell? w' _ h0, h0, hc 1 b rfl, hc 2 c rfl, hb⟩
theorem SplitN_few (s : ByteArray) (w : World) (hs : s.size ≤ 1000000) (hm : MaxOk w) (n : Nat) (h : (St.cut3 s.data.toList).length = n) :
    Calls Tryz.prog 132 #[.string s, .string ⟨#[32]⟩, .int .i64 3] w fun e w' => ∃ c, e = .returned (.slice (some ⟨w.heap.size, 0, none⟩) n c) ∧ Below w.heap.size w w' := by
  refine (SplitN_w s w hs hm).mono ?_
  rw [h]
  rintro e w' ⟨n, he, hn, hc, hb⟩
  exact ⟨n, he, hb⟩
/-- A line's end cut off. -/
theorem Cut_w (s : ByteArray) (w : World) (hs : s.size ≤ 1000000) :
    Calls Tryz.prog 131 #[.string s, .string ⟨#[13, 10]⟩] w fun e w' => e = .returned (.tuple #[.string (str (Lib.trimSuffix s.data.toList [13, 10])), .bool (Lib.hasSuffix s.data.toList [13, 10])]) ∧ w = w' :=
  (Tryz.strings_CutSuffix s ⟨#[13, 10]⟩ w (by omega)).mono fun _ _ ⟨he, hw⟩ => ⟨he, hw.symm⟩
end Go.Proofs.YtlbjjeonchcgbaaGreatDoor

namespace Go.Proofs.YtlbjjeonchcgbaaGreatDoor
open Go.RowKit

theorem heap_set_other (w : World) (b o : Nat) (v : Value) {g : Nat} (h : g ≠ b) : (w.setCell ⟨b, o, none⟩ v).heap[g]? = w.heap[g]? := by
  simp [World.setCell, Array.getElem?_modify, Ne.symm h]
theorem SAt.frees {w : World} {g : Nat} {W : World} {a b c d e : Value} (h : SAt w g W a b c d e) : W.frozen? ⟨g, 0, none⟩ = false ∧ W.frozen? ⟨g, 1, none⟩ = false ∧ W.frozen? ⟨g, 2, none⟩ = false ∧ W.frozen? ⟨g, 3, none⟩ = false ∧ W.frozen? ⟨g, 4, none⟩ = false := by
  simp [World.frozen?, h.cell]
theorem SAt.other5 {w : World} {g g' : Nat} {W : World} {a b c d e : Value} (h : SAt w g W a b c d e) (hg : w.heap.size ≤ g') (hne : g ≠ g') (v0 v1 v2 v3 v4 : Value) :
    SAt w g (((((W.setCell ⟨g', 0, none⟩ v0).setCell ⟨g', 1, none⟩ v1).setCell ⟨g', 2, none⟩ v2).setCell ⟨g', 3, none⟩ v3).setCell ⟨g', 4, none⟩ v4) a b c d e :=
  ⟨by rw [heap_set_other _ _ _ _ hne, heap_set_other _ _ _ _ hne, heap_set_other _ _ _ _ hne, heap_set_other _ _ _ _ hne, heap_set_other _ _ _ _ hne]; exact h.cell,
    ((((h.below.setCell (p := ⟨g', 0, none⟩) hg v0).setCell (p := ⟨g', 1, none⟩) hg v1).setCell (p := ⟨g', 2, none⟩) hg v2).setCell (p := ⟨g', 3, none⟩) hg v3).setCell (p := ⟨g', 4, none⟩) hg v4, h.ge⟩
theorem SAt.set {w : World} {g : Nat} {W : World} {a b c d e : Value} (h : SAt w g W a b c d e) (v0 v1 v2 v3 v4 : Value) :
    SAt w g (((((W.setCell ⟨g, 0, none⟩ v0).setCell ⟨g, 1, none⟩ v1).setCell ⟨g, 2, none⟩ v2).setCell ⟨g, 3, none⟩ v3).setCell ⟨g, 4, none⟩ v4) v0 v1 v2 v3 v4 :=
  ⟨by simp [World.setCell, Array.getElem?_modify, h.cell], ((((h.below.setCell (p := ⟨g, 0, none⟩) h.ge v0).setCell (p := ⟨g, 1, none⟩) h.ge v1).setCell (p := ⟨g, 2, none⟩) h.ge v2).setCell (p := ⟨g, 3, none⟩) h.ge v3).setCell (p := ⟨g, 4, none⟩) h.ge v4, h.ge⟩
theorem SAt.freshly {w W W' : World} (h : Below w.heap.size w W) {a b c d e : Value} (hb : Below (W.alloc (.cells #[a, b, c, d, e] 25)).heap.size (W.alloc (.cells #[a, b, c, d, e] 25)) W') : SAt w W.heap.size W' a b c d e :=
  (SAt.fresh h a b c d e).later hb
theorem rdQ_len (a b c : List UInt8) (n : Nat) (ha : a.length ≤ n) (hb : b.length ≤ n) (_hc : c.length ≤ n) : (St.rdQ a b c).1.method.length ≤ n ∧ (St.rdQ a b c).1.target.length ≤ n ∧ (St.rdQ a b c).1.reason.length ≤ n :=
  ⟨ha, hb, Nat.zero_le _⟩
theorem rdA_len (a b c : List UInt8) (n : Nat) (_ha : a.length ≤ n) (_hb : b.length ≤ n) (hc : c.length ≤ n) : (St.rdA a b c).1.method.length ≤ n ∧ (St.rdA a b c).1.target.length ≤ n ∧ (St.rdA a b c).1.reason.length ≤ n := by
  unfold St.rdA
  split
  · exact ⟨Nat.zero_le _, Nat.zero_le _, hc⟩
  · exact ⟨Nat.zero_le _, Nat.zero_le _, Nat.zero_le _⟩
/-- A line's three pieces lie in a row, a block for what is to be handed back. -/
structure Pc (w : World) (g A : Nat) (a b c : ByteArray) (W : World) : Prop where
  st : SAt w g W (.string ⟨#[]⟩) (.string ⟨#[]⟩) (.int .i64 0) (.string ⟨#[]⟩) (.int .i64 0)
  lt : A < W.heap.size
  c0 : W.cell? ⟨A, 0, none⟩ = some (.string a)
  c1 : W.cell? ⟨A, 1, none⟩ = some (.string b)
  c2 : W.cell? ⟨A, 2, none⟩ = some (.string c)
theorem Pc.later {w : World} {g A : Nat} {a b c : ByteArray} {W W' : World} (h : Pc w g A a b c W) (hb : Below W.heap.size W W') : Pc w g A a b c W' :=
  ⟨h.st.later hb, Nat.lt_of_lt_of_le h.lt hb.size, (hb.cell (p := ⟨A, 0, none⟩) h.lt).trans h.c0, (hb.cell (p := ⟨A, 1, none⟩) h.lt).trans h.c1, (hb.cell (p := ⟨A, 2, none⟩) h.lt).trans h.c2⟩
theorem Pc.alloc {w : World} {g A : Nat} {a b c : ByteArray} {W : World} (h : Pc w g A a b c W) (o : Obj) : Pc w g A a b c (W.alloc o) := h.later ((Below.refl _ W).alloc (Nat.le_refl _) o)
theorem Pc.cells {w : World} {g A : Nat} {a b c : ByteArray} {W : World} (h : Pc w g A a b c W) : W.cell? ⟨A, 0, none⟩ = some (.string a) ∧ W.cell? ⟨A, 1, none⟩ = some (.string b) ∧ W.cell? ⟨A, 2, none⟩ = some (.string c) := ⟨h.c0, h.c1, h.c2⟩
theorem Pc.other5 {w : World} {g A : Nat} {a b c : ByteArray} {W : World} (h : Pc w g A a b c W) {g' : Nat} (hg : w.heap.size ≤ g') (hne : g ≠ g') (hA : A ≠ g') (v0 v1 v2 v3 v4 : Value) :
    Pc w g A a b c (((((W.setCell ⟨g', 0, none⟩ v0).setCell ⟨g', 1, none⟩ v1).setCell ⟨g', 2, none⟩ v2).setCell ⟨g', 3, none⟩ v3).setCell ⟨g', 4, none⟩ v4) := by
  have e : ∀ k, (((((W.setCell ⟨g', 0, none⟩ v0).setCell ⟨g', 1, none⟩ v1).setCell ⟨g', 2, none⟩ v2).setCell ⟨g', 3, none⟩ v3).setCell ⟨g', 4, none⟩ v4).cell? ⟨A, k, none⟩ = W.cell? ⟨A, k, none⟩ := fun k => by
    unfold World.cell?
    simp only []
    rw [heap_set_other _ _ _ _ hA, heap_set_other _ _ _ _ hA, heap_set_other _ _ _ _ hA, heap_set_other _ _ _ _ hA, heap_set_other _ _ _ _ hA]
  exact ⟨h.st.other5 hg hne _ _ _ _ _, Nat.lt_of_lt_of_le h.lt (Nat.le_of_eq (by simp [World.setCell])), (e 0).trans h.c0, (e 1).trans h.c1, (e 2).trans h.c2⟩
end Go.Proofs.YtlbjjeonchcgbaaGreatDoor
