/- The program's map in memory: the runs as an iterator. -/
import Derived.Test.YtgfgafondiipoaaSvF
namespace Go.Proofs.Ytgfgafondiipoaa
open Go.RowKit Go.Shelf
attribute [local go_sem] Oper.semAt_some

/-- A run that lies in the map. -/
abbrev RunIn (m : Sp.M) := {x : Sp.Run // x.1 + x.2 ≤ m.length ∧ 1 ≤ x.2}
def rns {m : Sp.M} (l : List (RunIn m)) : List Sp.Run := l.map (·.1)
theorem rns_snoc {m : Sp.M} (l : List (RunIn m)) (x : RunIn m) : rns (l ++ [x]) = rns l ++ [x.1] := by unfold rns; rw [List.map_append]; rfl
theorem grown_of {A B : World} (h : Below A.heap.size A B) : A.grownBy B none := ⟨h.os, h.tape, h.output, h.size, fun k hk _ => h.block k hk⟩
set_option maxHeartbeats 4000000 in
set_option maxRecDepth 100000 in
theorem runs_c (F : Fence) (n : Nat) (h31 : F.fn 31) (h42 : F.fn 42) (hro : F.round = none) (hn : 1 ≤ n) (l q b : Nat) (m : Sp.M) (w : World) (h : PD w q b m) (J Jx : List (RunIn m) → World → Prop) (hcl : ∀ (X : World) (k : Nat), PD X q b m → k < m.length → CallsIn F (n - 1) Try.prog 42 #[.pointer (some ⟨q, 0, none⟩), .int .i64 (k : Int)] X fun e Y => e = .returned (.int .i64 (fl m k : Int)) ∧ Below X.heap.size X Y) (hJb : ∀ pre A B, J pre A → Below A.heap.size A B → J pre B)
    (hY : ∀ pre (x : RunIn m) W, J pre W → pre.length < m.length → YieldAt F (n - 1) Try.prog l #[ext (Sp.ie x.1)] W fun e W' =>
      (e = .returned (.bool true) ∧ J (pre ++ [x]) W' ∧ Below w.heap.size W W') ∨ (e = .returned (.bool false) ∧ Jx (pre ++ [x]) W'))
    (W : World) (hw : Below w.heap.size w W) (h0 : J [] W) :
    CallsIn F n Try.prog 31 #[.pointer (some ⟨q, 0, none⟩), .func (.yield l) #[] #[]] W fun e W' => (∃ v, e = .returned v) ∧
      ((∃ xs, rns xs = Sp.runs 0 m ∧ J xs W') ∨ (∃ pre, rns pre <+: Sp.runs 0 m ∧ Jx pre W')) := by
  have HJ := Lib.hid hJb
  have HY := Lib.hid hY
  have H := Lib.hid h
  have HCL := Lib.hid hcl
  have hlen := h.len
  obtain ⟨N, hN⟩ : ∃ N, N = m.length := ⟨_, rfl⟩
  have HN := Lib.hid hN
  rw [← hN] at hlen
  clear hJb hY h hN hcl
  refine callsIn_of_wp Try.func31 rfl h31 ?_ hro
  simp only [Try.ntmps31, List.size_toArray, List.length_cons, List.length_nil, Nat.reduceAdd, Nat.reduceSub, Array.replicate_succ, Array.replicate_zero, List.push_toArray, List.append_toArray, List.nil_append, List.cons_append]
  gi_wp2
  gi_loopw [4] (fun i wr => ∃ (k : Nat) (pre : List (RunIn m)), i = .int .i64 (k : Int) ∧ k ≤ N + 1 ∧ Hid (rns pre ++ Sp.runs k (m.drop k) = Sp.runs 0 m) ∧ Hid (pre.length ≤ k) ∧ J pre wr ∧ Hid (Below w.heap.size w wr)) (fun i _ => N + 1 - (intOf i).toNat)
  case atStart => exact ⟨0, [], rfl, Nat.zero_le _, Lib.hid rfl, Lib.hid (Nat.zero_le _), h0, Lib.hid hw⟩
  case round =>
    clear h0 hw
    obtain ⟨k, pre, rfl, hk, HP, HPL, hJ, HW⟩ := hrel
    have c0 := (H.out.later HW.out).c0
    rw [← HN.out] at c0
    by_cases hlt : k < N
    · have hki : (k : Int) < N := by omega
      have cL := HCL.out wr k (H.out.later HW.out) (by rw [← HN.out]; exact hlt)
      have hfl := fl_le m k
      have HS := Lib.hid (runs_step m k)
      obtain ⟨r, hr⟩ : ∃ r, r = fl m k := ⟨_, rfl⟩
      rw [← hr, ← HN.out] at hfl
      rw [← hr] at cL HS
      clear hr
      by_cases hr0 : r = 0
      · subst hr0
        gi_wp2_with (gi_at_call 42; refine cL.mono ?_; rintro e w2 ⟨rfl, hb2⟩; have HB2 := Lib.hid hb2; clear hb2 cL c0)
        refine ⟨fun _ h => (by cases h), ?_⟩
        gi_wp2
        go_roundw
        case rel => exact ⟨k + 1, pre, by go_num, by omega, Lib.hid (by have := HS.out; simp only [if_true, List.nil_append, Nat.add_zero] at this; rw [← this]; exact HP.out), Lib.hid (by have := HPL.out; omega), HJ.out _ _ _ hJ HB2.out, Lib.hid (bt5 HW.out HB2.out)⟩
        case measure => simp [intOf]; omega
      · have hri : (0 : Int) < r := by omega
        have hr1 : 0 < r := by omega
        have hrn : ((k : Int) + r) = ((k + r : Nat) : Int) := by omega
        obtain ⟨x, hx⟩ : ∃ x : RunIn m, x.1 = (k, r) := ⟨⟨(k, r), by rw [← HN.out]; simp only; omega⟩, rfl⟩
        have HX := Lib.hid hx
        clear hx hrn
        gi_wp2_with (gi_at_call 42; refine cL.mono ?_; rintro e w2 ⟨rfl, hb2⟩; have HB2 := Lib.hid hb2; have hJ2 := HJ.out _ _ _ hJ hb2; clear hb2 cL c0 hJ; obtain ⟨fn, tmps, assign, body, hy, hR⟩ := HY.out pre x w2 hJ2 (by rw [← HN.out]; have := HPL.out; omega); rw [HX.out] at hy; unfold ext Sp.ie at hy; dsimp only at hy)
        refine hR.mono ?_
        have HE : Hid (rns (pre ++ [x]) ++ Sp.runs (k + r + 1) (m.drop (k + r + 1)) = Sp.runs 0 m) := Lib.hid (by
          have := HS.out
          rw [if_neg hr0] at this
          rw [rns_snoc, HX.out, List.append_assoc, ← this]; exact HP.out)
        rintro e W3 (⟨rfl, hJ3, hk3⟩ | ⟨rfl, hJx3⟩)
        · have HB3 := Lib.hid ((bt5 HW.out HB2.out).trans hk3)
          clear hk3 hy hR hJ2
          gi_wp2
          go_roundw
          case rel => exact ⟨k + r + 1, pre ++ [x], by go_num, by omega, HE, Lib.hid (by have := HPL.out; rw [List.length_append, List.length_singleton]; omega), hJ3, HB3⟩
          case measure => simp [intOf]; omega
        · clear hy hR hJ2
          gi_wp2
          refine bodyPost_ret (results_none rfl _ _ _) rfl ?_
          exact ⟨⟨_, rfl⟩, .inr ⟨pre ++ [x], ⟨_, HE.out⟩, hJx3⟩⟩
    · have hki : ¬ (k : Int) < N := by omega
      have HE : Hid (rns pre = Sp.runs 0 m) := Lib.hid (by
        have := HP.out
        rw [List.drop_eq_nil_of_le (by rw [← HN.out]; omega)] at this
        rw [← this]; exact (List.append_nil _).symm)
      gi_wp2
      go_end0
      exact ⟨⟨_, rfl⟩, .inl ⟨pre, HE.out, hJ⟩⟩
end Go.Proofs.Ytgfgafondiipoaa
