/- Package message, the program: a header is read of octets that lie anywhere, or of none. -/
import Derived.Test.YtlbjjeonchcgbaaGreatDoorFdWith
import Derived.Test.YtlbjjeonchcgbaaGreatDoorStBase
import Derived.Deep.RegionHeld3
namespace Go.Proofs.YtlbjjeonchcgbaaGreatDoor
open Go.RowKit

/-- Block g holds the octets l, from o on. -/
def OcA (w : World) (g o : Nat) (l : List UInt8) : Prop := g < w.heap.size ∧ ∀ j (hj : j < l.length), w.cell? ⟨g, o + j, none⟩ = some (.int .u8 (l[j].toNat : Int))
theorem OcA.later {w w' : World} {g o : Nat} {l : List UInt8} (h : OcA w g o l) (hb : Below w.heap.size w w') : OcA w' g o l :=
  ⟨Nat.lt_of_lt_of_le h.1 hb.size, fun j hj => (hb.cell (p := ⟨g, o + j, none⟩) h.1).trans (h.2 j hj)⟩
theorem OcA.part {w : World} {g o : Nat} {l : List UInt8} (h : OcA w g o l) (n h6 : Nat) : ∀ j (hj : j < ((l.take h6).drop n).length), w.cell? ⟨g, o + n + j, none⟩ = some (.int .u8 (((l.take h6).drop n)[j].toNat : Int)) := by
  intro j hj
  rw [List.length_drop, List.length_take] at hj
  rw [Nat.add_assoc, h.2 (n + j) (by omega)]
  simp

set_option maxHeartbeats 1600000 in
set_option maxRecDepth 100000 in
/-- A line is there. -/
theorem lineAt_yesA (g o n c : Nat) (l : List UInt8) (w : World) (hl : l.length ≤ 1000000) (hlc : l.length ≤ c) (hc9 : c ≤ 9223372036854775807) (h : OcA w g o l) (hm : MaxOk w) (hn : n ≤ l.length) (hn6 : n ≤ 65536) (i : Nat) (hi : Lib.index ((l.take 65536).drop n) [13, 10] = i) (hn2 : n + i + 2 ≤ 65536) (hn3 : n + i + 2 ≤ l.length) :
    Calls Tryz.prog 110 #[.slice (some ⟨g, o, none⟩) l.length c, .int .i64 n] w fun e w' => e = .returned (.tuple #[.string (str ((l.take (n + i)).drop n)), .int .i64 0]) ∧ Below w.heap.size w w' := by
  obtain ⟨W1, hcs, cb0, cb1, hb0⟩ := crlf_block w
  have hO := h.later hb0
  have hM := hm.later hb0
  have hI := index_w W1 g (o + n) ((l.take 65536).drop n).length (c - n) ((l.take 65536).drop n) rfl (by rw [List.length_drop, List.length_take]; omega) (by rw [List.length_drop, List.length_take]; omega) (hO.part n 65536) w.heap.size cb0 cb1 hM
  rw [hi, List.length_drop, List.length_take] at hI
  have hcv : ∀ q, (convert 22 9 (.slice (some ⟨g, o + n, none⟩) i (c - n))).run Tryz.prog (W1.drewN q) = .ok (.string (str ((l.take (n + i)).drop n))) (W1.drewN q) := fun q => by
    have hlen : ((l.take (n + i)).drop n).length = i := by rw [List.length_drop, List.length_take]; omega
    have := run_convert_bytes_back (P := Tryz.prog) (W1.drewN q) 22 9 5 ⟨g, o + n, none⟩ (c - n) ((l.take (n + i)).drop n) Tryz.underlying22 Tryz.underlying5 Tryz.underlying9 (fun j hj => by
      rw [Addr.add_lit]; exact hO.part n (n + i) j hj)
    rw [hlen] at this
    exact this
  generalize str ((l.take (n + i)).drop n) = s at *
  obtain ⟨L, hL⟩ : ∃ L, L = l.length := ⟨_, rfl⟩
  rw [← hL] at hl hlc hn hn3 hI ⊢
  obtain ⟨M, hM1, hmin⟩ : ∃ M : Nat, M = min 65536 L ∧ min (L : Int) 65536 = (M : Int) := ⟨min 65536 L, rfl, by omega⟩
  rw [← hM1] at hI
  have hM2 : n + i + 2 ≤ M := by omega
  have hM3 : M ≤ c := by omega
  have hM4 : M ≤ 65536 := by omega
  clear h hO hM cb0 cb1 hi hm hL hM1
  go_enter Tryz.func110, Tryz.ntmps110
  go_wp2_with fail
  refine hI.mono ?_
  rintro e w1 ⟨rfl, q, rfl⟩
  go_wp2_with fail
  go_ret2
  exact ⟨rfl, hb0.trans ((bdrewN _ _).mono hb0.size)⟩

set_option maxHeartbeats 1600000 in
set_option maxRecDepth 100000 in
/-- There is none. -/
theorem lineAt_noA (g o n c : Nat) (l : List UInt8) (w : World) (hl : l.length ≤ 1000000) (hlc : l.length ≤ c) (_hc9 : c ≤ 9223372036854775807) (h : OcA w g o l) (hm : MaxOk w) (hn : n ≤ l.length) (hn6 : n ≤ 65536) (hi : Lib.index ((l.take 65536).drop n) [13, 10] < 0) :
    Calls Tryz.prog 110 #[.slice (some ⟨g, o, none⟩) l.length c, .int .i64 n] w fun e w' => e = .returned (.tuple #[.string ⟨#[]⟩, .int .i64 (if l.length > 65536 then 12 else 11)]) ∧ Below w.heap.size w w' := by
  obtain ⟨W1, hcs, cb0, cb1, hb0⟩ := crlf_block w
  have hO := h.later hb0
  have hM := hm.later hb0
  obtain ⟨L, hL⟩ : ∃ L, L = l.length := ⟨_, rfl⟩
  obtain ⟨M, hM1, hmin⟩ : ∃ M : Nat, M = min 65536 L ∧ min (L : Int) 65536 = (M : Int) := ⟨min 65536 L, rfl, by omega⟩
  have hM3 : M ≤ c := by omega
  have hM4 : M ≤ 65536 := by omega
  have hM5 : n ≤ M := by omega
  have hlen : ((l.take 65536).drop n).length = M - n := by rw [List.length_drop, List.length_take, ← hL, hM1]
  obtain ⟨a, ha, hI⟩ : ∃ a : Nat, (if c = n then a = o else a = o + n) ∧ Calls Tryz.prog 134 #[.slice (some ⟨g, a, none⟩) (M - n) (c - n), .slice (some ⟨w.heap.size, 0, none⟩) 2 2] W1 fun e w' => e = .returned (.int .i64 (Lib.index ((l.take 65536).drop n) [13, 10])) ∧ ∃ q, w' = W1.drewN q := by
    by_cases hcn : c = n
    · refine ⟨o, by rw [if_pos hcn], ?_⟩
      exact index_w W1 g o (M - n) (c - n) ((l.take 65536).drop n) hlen (by omega) (by omega) (fun j hj => by omega) w.heap.size cb0 cb1 hM
    · refine ⟨o + n, by rw [if_neg hcn], ?_⟩
      exact index_w W1 g (o + n) (M - n) (c - n) ((l.take 65536).drop n) hlen (by omega) (by omega) (hO.part n 65536) w.heap.size cb0 cb1 hM
  obtain ⟨r, hr⟩ : ∃ r : Int, r = Lib.index ((l.take 65536).drop n) [13, 10] := ⟨_, rfl⟩
  have hr9 : -9223372036854775808 ≤ r := by
    have := Lib.index_ge ((l.take 65536).drop n) [13, 10]; omega
  rw [← hr] at hI hi
  rw [← hL] at hl hlc hn ⊢
  clear h hO hM cb0 cb1 hm hL hM1 hlen hr
  by_cases hcn : c = n
  · rw [if_pos hcn] at ha
    subst ha
    by_cases h6 : 65536 < L
    · omega
    · rw [if_neg (by omega)]
      have b6 : ¬ (65536 : Int) < (L : Int) := by omega
      subst hcn
      have e0 : c - c = 0 := by omega
      have e1 : M - c = 0 := by omega
      rw [e0, e1] at hI
      go_enter Tryz.func110, Tryz.ntmps110
      go_wp2_with fail
      refine hI.mono ?_
      rintro e w1 ⟨rfl, q, rfl⟩
      go_wp2_with fail
      go_ret2
      exact ⟨rfl, hb0.trans ((bdrewN _ _).mono hb0.size)⟩
  · rw [if_neg hcn] at ha
    subst ha
    by_cases h6 : 65536 < L
    · rw [if_pos (by omega)]
      have b6 : (65536 : Int) < (L : Int) := by omega
      go_enter Tryz.func110, Tryz.ntmps110
      go_wp2_with fail
      refine hI.mono ?_
      rintro e w1 ⟨rfl, q, rfl⟩
      go_wp2_with fail
      go_ret2
      exact ⟨rfl, hb0.trans ((bdrewN _ _).mono hb0.size)⟩
    · rw [if_neg (by omega)]
      have b6 : ¬ (65536 : Int) < (L : Int) := by omega
      go_enter Tryz.func110, Tryz.ntmps110
      go_wp2_with fail
      refine hI.mono ?_
      rintro e w1 ⟨rfl, q, rfl⟩
      go_wp2_with fail
      go_ret2
      exact ⟨rfl, hb0.trans ((bdrewN _ _).mono hb0.size)⟩
set_option maxHeartbeats 3200000 in
set_option maxRecDepth 100000 in
theorem Parse_o (g o c : Nat) (l : List UInt8) (w : World) (hl : l.length ≤ 1000000) (hlc : l.length ≤ c) (hc9 : c ≤ 9223372036854775807) (h : OcA w g o l) (hm : MaxOk w) :
    Calls Tryz.prog 92 #[.slice (some ⟨g, o, none⟩) l.length c] w fun e w' => ∃ v, e = .returned (.tuple #[v, .int .i64 (Fld.parse l).2.1, .int .i64 (Fld.parse l).2.2]) ∧ FBuf w w' v (Fld.parse l).1 := by
  obtain ⟨L, hL⟩ : ∃ L, L = l.length := ⟨_, rfl⟩
  have cY := fun (n : Nat) (w1 : World) (hb : Below w.heap.size w w1) => lineAt_yesA g o n c l w1 hl hlc hc9 (h.later hb) (hm.later hb)
  have cN := fun (n : Nat) (w1 : World) (hb : Below w.heap.size w w1) => lineAt_noA g o n c l w1 hl hlc hc9 (h.later hb) (hm.later hb)
  rw [← hL] at cY cN ⊢
  have HL := Lib.hid hL
  have HM := Lib.hid hm
  have hL9 : L ≤ 1000000 := by omega
  clear h hm hL hl hlc hc9
  go_enter Tryz.func92, Tryz.ntmps92
  go_wp2_with fail
  go_loopw [5, 6] (fun v i wr => ∃ (n : Nat) (acc : List Fld.F), i = .int .i64 n ∧ Fld.At l n acc ∧ FBuf w wr v acc) (fun _ i _ => L - (intOf i).toNat)
  case atStart => exact ⟨0, [], rfl, Fld.At.start l, FBuf.nil w⟩
  case round =>
    obtain ⟨n, acc, rfl, hA, hB⟩ := hrel
    have hn1 : n ≤ L := by have := hA.1; have := HL.out; omega
    have hn2 : n ≤ 65536 := hA.2.1
    have hac : acc.length ≤ 128 := hA.2.2.1
    have HA := Lib.hid hA
    rcases (show Lib.index ((l.take 65536).drop n) [13, 10] < 0 ∨ 0 ≤ Lib.index ((l.take 65536).drop n) [13, 10] by omega) with hneg | hpos
    · have HP := Lib.hid (hA.none hneg)
      have hc := cN n wr hB.2 hn1 hn2 hneg
      have HN : Hid (Below w.heap.size w wr) := hB.2
      rw [← HL.out] at HP
      by_cases h6 : 65536 < L
      · rw [if_pos h6] at hc HP
        clear hA hneg h6
        go_wp2_with (go_at_call 110; refine hc.mono ?_; rintro e w1 ⟨rfl, hb1⟩)
        go_ret3
        exact ⟨_, by rw [HP.out]; rfl, by rw [HP.out]; exact FBuf.nil_of (HN.out.trans (hb1.mono HN.out.size))⟩
      · rw [if_neg h6] at hc HP
        clear hA hneg h6
        go_wp2_with (go_at_call 110; refine hc.mono ?_; rintro e w1 ⟨rfl, hb1⟩)
        go_ret3
        exact ⟨_, by rw [HP.out]; rfl, by rw [HP.out]; exact FBuf.nil_of (HN.out.trans (hb1.mono HN.out.size))⟩
    · obtain ⟨i, hi⟩ : ∃ i : Nat, Lib.index ((l.take 65536).drop n) [13, 10] = i := ⟨_, (Int.toNat_of_nonneg hpos).symm⟩
      obtain ⟨he, he1, he2⟩ := Fld.head_some hA.1 hi
      have hc := cY n wr hB.2 hn1 hn2 i hi he1 (by have := HL.out; omega)
      by_cases h0 : i = 0
      · subst h0
        have HP := Lib.hid (hA.last he he1)
        have e0 : str ((l.take (n + 0)).drop n) = ⟨#[]⟩ := by
          rw [Nat.add_zero, List.drop_of_length_le (by rw [List.length_take]; omega)]; rfl
        rw [e0] at hc
        clear hA hpos hi he he2 e0
        go_wp2_with (go_at_call 110; refine hc.mono ?_; rintro e w1 ⟨rfl, hb1⟩)
        go_ret3
        exact ⟨_, by rw [HP.out]; rfl, by rw [HP.out]; exact hB.after hb1⟩
      · obtain ⟨ln, hln⟩ : ∃ ln, ln = (l.take (n + i)).drop n := ⟨_, rfl⟩
        have hll : ln.length = i := by rw [hln, List.length_drop, List.length_take]; have := HL.out; omega
        rw [← hln] at hc
        have hi9 : i ≤ 1000000 := by omega
        have hnL : n + i + 2 ≤ L := by have := HL.out; omega
        have cR := fun w1 (hm : MaxOk w1) => read_w ln w1 (by omega) hm
        have zr := readLine_small ln
        have cF := fun w1 => right_s (Fld.readLine ln) w1 (by omega) (by omega)
        have hxe : (str ln).toList.isEmpty = false := by
          rw [str_toList]; cases h : ln with
          | nil => rw [h] at hll; simp at hll; omega
          | cons _ _ => rfl
        have hxn : ¬ (str ln).toList = [] := by
          rw [str_toList]; intro h; rw [h] at hll; simp at hll; omega
        have hxs : ((str ln).size : Int) = (i : Int) := by rw [str_size, hll]
        have HR0 : Hid (Fld.right (Fld.readLine ln) = false → Fld.parse l = ([], 0, 10)) := fun hr => hA.form he he1 (by omega) (by rw [← hln]; exact Fld.readLine_no hr)
        have HR1 : Hid (Fld.right (Fld.readLine ln) = true → acc.length ≥ 128 → Fld.parse l = ([], 0, 13)) := fun hr hm => hA.many he he1 (by omega) (f := Fld.readLine ln) (by rw [← hln]; exact Fld.readLine_yes hr) hm
        have HR2 : Hid (Fld.right (Fld.readLine ln) = true → acc.length < 128 → Fld.At l (n + i + 2) (acc ++ [Fld.readLine ln])) := fun hr hm => hA.next he he2 (by omega) he1 (by omega) (by rw [← hln]; exact Fld.readLine_yes hr) hm
        obtain ⟨f, hf⟩ : ∃ f, f = Fld.readLine ln := ⟨_, rfl⟩
        rw [← hf] at cR cF HR0 HR1 HR2
        generalize str ln = s at *
        obtain ⟨fx, hfx⟩ : ∃ x, x = str f.1 := ⟨_, rfl⟩
        obtain ⟨fy, hfy⟩ : ∃ y, y = str f.2 := ⟨_, rfl⟩
        unfold fval at cR cF
        rw [← hfx, ← hfy] at cR cF
        have HX := Lib.hid hfx
        have HY := Lib.hid hfy
        have HB : Hid (Below w.heap.size w wr) := hB.2
        clear hA hpos hi he he2 hln hll zr hf hfx hfy h0
        go_wp2_with (go_at_call 110; refine hc.mono ?_; rintro e w1 ⟨rfl, hb1⟩)
        have hm1 : MaxOk w1 := (HM.out.later HB.out).later hb1
        refine (cR w1 hm1).mono ?_
        rintro e w2 ⟨rfl, hb2⟩
        cases hr : Fld.right f with
        | false =>
          rw [hr] at cF
          have HP := Lib.hid (HR0.out hr)
          clear hr hm1
          go_wp2_with (go_at_call 86; refine (cF _).mono ?_; rintro e w3 ⟨rfl, hb3⟩)
          obtain ⟨_, _, hb4⟩ := fcell hb3
          go_ret3
          exact ⟨_, by rw [HP.out]; rfl, by rw [HP.out]; exact FBuf.nil_of ((HB.out.trans (hb1.mono HB.out.size)).trans ((hb2.trans (hb4.mono hb2.size)).mono (Nat.le_trans HB.out.size hb1.size)))⟩
        | true =>
          rw [hr] at cF
          by_cases h128 : acc.length = 128
          · have HP := Lib.hid (HR1.out hr (by omega))
            obtain ⟨ao, ca, rfl, _⟩ := hB.fin
            rw [h128] at *
            clear hr hm1 HR0 HR1 HR2 h128
            go_wp2_with (go_at_call 86; refine (cF _).mono ?_; rintro e w3 ⟨rfl, hb3⟩)
            obtain ⟨_, _, hb4⟩ := fcell hb3
            go_ret3
            exact ⟨_, by rw [HP.out]; rfl, by rw [HP.out]; exact FBuf.nil_of ((HB.out.trans (hb1.mono HB.out.size)).trans ((hb2.trans (hb4.mono hb2.size)).mono (Nat.le_trans HB.out.size hb1.size)))⟩
          · have HP := Lib.hid (HR2.out hr (by omega))
            have b1 : ((acc.length : Int) == 128) = false := beq_eq_false_iff_ne.2 (by omega)
            have hal : acc.length ≤ 1000000000 := by omega
            obtain ⟨ao, ca, hv5, _⟩ := hB.fin
            obtain ⟨A, hA5⟩ : ∃ A, A = acc.length := ⟨_, rfl⟩
            rw [← hA5] at hv5 b1
            have HA5 := Lib.hid hA5
            subst hv5
            clear hr hm1 HR0 HR1 HR2 h128 hA5
            go_wp2_with (first
              | (go_at_call 86; refine (cF _).mono ?_; rintro e w3 ⟨rfl, hb3⟩; obtain ⟨f0, f1, hb4⟩ := fcell hb3; have hB3 := hB.after (hb1.trans ((hb2.trans (hb4.mono hb2.size)).mono hb1.size)))
              | (at_builtin; refine appF hB3 f hal rfl _ _ rfl fx fy HX.out HY.out rfl rfl ?_; intro v' w4 hB4))
            go_roundw
            case rel => exact ⟨n + i + 2, acc ++ [f], by go_num, HP.out, hB4⟩
            case measure => simp [intOf]; omega

set_option maxHeartbeats 1600000 in
set_option maxRecDepth 100000 in
theorem index_none (ao : Option Addr) (c : Nat) (b : Value) (hb : ∃ ad k, b = .slice (some ad) 2 k) (w : World) : Calls Tryz.prog 134 #[.slice ao 0 c, b] w fun e w' => e = .returned (.int .i64 (-1)) ∧ w = w' := by
  obtain ⟨ad, k, rfl⟩ := hb
  go_enter Tryz.func134, Tryz.ntmps134
  go_wp2_with fail
  go_ret
  exact ⟨rfl, rfl⟩
set_option maxHeartbeats 1600000 in
set_option maxRecDepth 100000 in
theorem lineAt_none (ao : Option Addr) (c : Nat) (hn : ao = none → c = 0) (w : World) : Calls Tryz.prog 110 #[.slice ao 0 c, .int .i64 0] w fun e w' => e = .returned (.tuple #[.string ⟨#[]⟩, .int .i64 11]) ∧ Below w.heap.size w w' := by
  obtain ⟨W1, hcs, _, _, hb0⟩ := crlf_block w
  have cI := fun (x : Option Addr) (k : Nat) => index_none x k (.slice (some ⟨w.heap.size, 0, none⟩) 2 2) ⟨_, _, rfl⟩ W1
  have HB := Lib.hid hb0
  clear hb0
  have hmin : min (0 : Int) 65536 = 0 := by decide
  cases ao with
  | none =>
    have := hn rfl
    subst this
    clear hn
    go_enter Tryz.func110, Tryz.ntmps110
    go_wp2_with fail
    refine (cI _ _).mono ?_
    rintro e w1 ⟨rfl, rfl⟩
    go_wp2_with fail
    go_ret2
    exact ⟨rfl, HB.out⟩
  | some ad =>
    clear hn
    go_enter Tryz.func110, Tryz.ntmps110
    go_wp2_with fail
    refine (cI _ _).mono ?_
    rintro e w1 ⟨rfl, rfl⟩
    go_wp2_with fail
    go_ret2
    exact ⟨rfl, HB.out⟩
set_option maxHeartbeats 1600000 in
set_option maxRecDepth 100000 in
theorem Parse_none (ao : Option Addr) (c : Nat) (hn : ao = none → c = 0) (w : World) : Calls Tryz.prog 92 #[.slice ao 0 c] w fun e w' => e = .returned (.tuple #[.slice none 0 0, .int .i64 0, .int .i64 11]) ∧ Below w.heap.size w w' := by
  have cL := lineAt_none ao c hn w
  clear hn
  go_enter Tryz.func92, Tryz.ntmps92
  go_wp2_with fail
  go_loopw [5, 6] (fun v i wr => v = .slice none 0 0 ∧ i = .int .i64 0 ∧ w = wr) (fun _ i _ => 0)
  case atStart => exact ⟨rfl, rfl, rfl⟩
  case round =>
    obtain ⟨rfl, rfl, rfl⟩ := hrel
    go_wp2_with (go_at_call 110; refine cL.mono ?_; rintro e w1 ⟨rfl, hb1⟩)
    go_ret3
    exact ⟨rfl, hb1⟩
/-- A header, wherever its octets lie. -/
theorem Parse_b (v : Value) (l : List UInt8) (w : World) (hl : l.length ≤ 1000000) (h : BIn w v l) (hn : NilOk v) (hm : MaxOk w) :
    Calls Tryz.prog 92 #[v] w fun e w' => ∃ u, e = .returned (.tuple #[u, .int .i64 (Fld.parse l).2.1, .int .i64 (Fld.parse l).2.2]) ∧ FBuf w w' u (Fld.parse l).1 := by
  obtain ⟨ao, c, rfl, h1, h2, hg⟩ := h
  by_cases h0 : l = []
  · subst h0
    exact (Parse_none ao c (fun e => hn c (by rw [e]; rfl)) w).mono fun e w' ⟨he, hb⟩ => ⟨_, he, FBuf.nil_of hb⟩
  · obtain ⟨b, o, rfl, hb, hc⟩ := hg.resolve_left h0
    exact Parse_o b o c l w hl h1 h2 ⟨hb, hc⟩ hm
end Go.Proofs.YtlbjjeonchcgbaaGreatDoor
