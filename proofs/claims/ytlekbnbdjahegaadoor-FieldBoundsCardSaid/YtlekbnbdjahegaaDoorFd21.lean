/- The statements of layer 3: FieldBounds. -/
import Derived.Test.YtlekbnbdjahegaaDoorFd16
import Derived.Deep.OwnRows
import Derived.Deep.DeepCutAuto
namespace Go.Proofs.YtlekbnbdjahegaaDoor
open Go.RowKit

theorem tmod_in (n b : Int) (hb : 0 < b) : -b < n.tmod b ∧ n.tmod b < b := ⟨Int.lt_tmod_of_pos n hb, Int.tmod_lt_of_pos n hb⟩
/-- n small letters x. -/
def exes (n : Nat) : List UInt8 := List.replicate n 120
theorem exes_length (n : Nat) : (exes n).length = n := List.length_replicate
theorem exes_plain (n : Nat) : ∀ c ∈ exes n, c ≠ 13 := fun c h => by rw [List.eq_of_mem_replicate h]; decide
theorem exes_value (n : Nat) : Oct.value (exes n) = true := by
  unfold Oct.value
  have h1 : (exes n).all Oct.plain = true := List.all_eq_true.2 (fun c h => by rw [List.eq_of_mem_replicate h]; decide)
  have h2 : Oct.trim (exes n) = exes n := (Oct.trim_fix' _).2 ⟨fun c r h => by
      have : c ∈ exes n := by rw [h]; simp
      rw [List.eq_of_mem_replicate this]; decide, fun i c h => by
      have : c ∈ exes n := by rw [h]; simp
      rw [List.eq_of_mem_replicate this]; decide⟩
  rw [h1, h2]; simp
def fA (n : Nat) : Fld.F := ([97], exes n)
theorem fA_right (n : Nat) : Fld.right (fA n) = true := by
  unfold Fld.right fA
  rw [show Oct.token [97] = true by decide, exes_value]; rfl
theorem fA_weight (n : Nat) : Fld.weight (fA n) = n + 5 := by unfold Fld.weight fA; rw [exes_length]; simp; omega
theorem fA_size (n : Nat) : Fld.size [fA n] = n + 7 := by
  show 2 + (Fld.weight (fA n) + 0) = _
  rw [fA_weight]; omega
theorem fA_fault (n : Nat) : Fld.fault [fA n] = if 65536 < n + 7 then 12 else 0 := by
  have h : Fld.allRight [fA n] = true := by unfold Fld.allRight; simp [fA_right]
  split
  · exact Fld.fault_long h (by simp) (by rw [fA_size]; assumption)
  · exact Fld.fault_ok h (by simp) (by rw [fA_size]; omega)
theorem fA_print (n : Nat) : Fld.print [fA n] = [97, 58, 32] ++ exes n ++ [13, 10, 13, 10] := by
  unfold Fld.print Fld.lines Fld.line fA; simp
theorem fA_parse (n : Nat) : (Fld.parse ([97, 58, 32] ++ exes n ++ [13, 10, 13, 10])).2 = if 65536 < n + 7 then (0, 12) else (n + 7, 0) := by
  rw [← fA_print]
  split
  · rename_i h
    have e : Fld.print [fA n] = Fld.line (fA n) ++ [13, 10] := by unfold Fld.print Fld.lines; simp
    rw [e, Fld.parse_long (fA_right n) (by rw [fA_weight]; omega)]
  · rename_i h
    have := Fld.parse_print (fs := [fA n]) (by rw [fA_fault, if_neg h]) []
    rw [List.append_nil] at this
    rw [this, Fld.print_length, fA_size]
def fB : Fld.F := ([98], [99])
def bs (n : Nat) : List Fld.F := List.replicate n fB
theorem bs_length (n : Nat) : (bs n).length = n := List.length_replicate
theorem bs_succ (n : Nat) : bs (n + 1) = bs n ++ [fB] := by unfold bs; rw [List.replicate_succ']
theorem bs_right (n : Nat) : Fld.allRight (bs n) = true := List.all_eq_true.2 (fun f h => by rw [List.eq_of_mem_replicate h]; decide)
theorem bs_sum (n : Nat) : ((bs n).map Fld.weight).sum = 6 * n := by
  induction n with
  | zero => rfl
  | succ n ih => rw [bs_succ, List.map_append, List.sum_append, ih]; show 6 * n + (6 + 0) = _; omega
theorem bs_lines (n : Nat) : Fld.lines (bs (n + 1)) = Fld.lines (bs n) ++ [98, 58, 32, 99, 13, 10] := by
  unfold Fld.lines; rw [bs_succ, List.flatMap_append]; rfl
theorem bs_lines_length (n : Nat) : (Fld.lines (bs n)).length = 6 * n := by rw [Fld.lines_sum, bs_sum]
theorem bs_fault (n : Nat) (h : n ≤ 139) : Fld.fault (bs n) = if 128 < n then 13 else 0 := by
  have hr := bs_right n
  split
  · exact Fld.fault_many hr (by rw [bs_length]; assumption)
  · exact Fld.fault_ok hr (by rw [bs_length]; omega) (by unfold Fld.size; rw [bs_sum]; omega)
theorem bs_small (n : Nat) (h : n ≤ 139) : Small (bs n) := ⟨by rw [bs_length]; omega, fun f hf => by rw [List.eq_of_mem_replicate hf]; exact ⟨by decide, by decide⟩⟩
theorem bs_yes (n : Nat) (h : n ≤ 128) : Fld.parse (Fld.lines (bs n) ++ [13, 10]) = (bs n, 6 * n + 2, 0) := by
  have := Fld.parse_print (fs := bs n) (by rw [bs_fault n (by omega), if_neg (by omega)]) []
  rw [List.append_nil] at this
  unfold Fld.print at this
  rw [this, List.length_append, bs_lines_length]; rfl
theorem bs_no (n : Nat) (h : 128 < n) (h2 : n ≤ 139) : Fld.parse (Fld.lines (bs n) ++ [13, 10]) = ([], 0, 13) :=
  Fld.parse_many (bs_right n) (by rw [bs_length]; exact h) (by rw [bs_sum]; omega) _

/-- What the row holds while it is filled: k letters, and noughts. -/
def filling (n k : Nat) : List UInt8 := exes k ++ List.replicate (n - k) 0
theorem filling_length (n k : Nat) (h : k ≤ n) : (filling n k).length = n := by unfold filling; rw [List.length_append, exes_length, List.length_replicate]; omega
theorem filling_zero (n : Nat) : filling n 0 = List.replicate n 0 := by unfold filling exes; simp
theorem filling_full (n : Nat) : filling n n = exes n := by unfold filling; simp
theorem filling_next (n k : Nat) (h : k < n) : (filling n k).set k 120 = filling n (k + 1) := by
  unfold filling exes
  apply List.ext_getElem?
  intro i
  rw [List.getElem?_set]
  by_cases hi : k = i
  · subst hi
    have hl : k < (List.replicate k (120 : UInt8) ++ List.replicate (n - k) 0).length := by simp; omega
    rw [if_pos rfl, if_pos hl, List.getElem?_append_left (by simp), List.getElem?_replicate, if_pos (by omega)]
  · rw [if_neg hi]
    rcases Nat.lt_or_ge i k with h1 | h1
    · rw [List.getElem?_append_left (by simp; omega), List.getElem?_append_left (by simp; omega), List.getElem?_replicate, List.getElem?_replicate, if_pos h1, if_pos (by omega)]
    · rw [List.getElem?_append_right (by simp; omega), List.getElem?_append_right (by simp; omega), List.getElem?_replicate, List.getElem?_replicate, List.length_replicate, List.length_replicate]
      by_cases h2 : i < n
      · rw [if_pos (by omega), if_pos (by omega)]
      · rw [if_neg (by omega), if_neg (by omega)]
/-- A row that the call made whole (nothing of it is frozen). -/
def Whole (w : World) (g : Nat) (l : List UInt8) : Prop := ∃ C : Array Value, w.heap[g]? = some (.cells C 5 (0, 0)) ∧ C.toList = Lib.byteCells l
theorem Whole.oc {w : World} {g : Nat} {l : List UInt8} (h : Whole w g l) : Oc w g l := by
  obtain ⟨C, h1, h2⟩ := h
  refine ⟨lt_of_block h1, fun j hj => ?_⟩
  have : C.toList[j]? = some (.int .u8 (l[j].toNat : Int)) := by rw [h2]; simp [Lib.byteCells, hj]
  simp only [World.cell?, h1]; simpa using this
theorem Whole.free {w : World} {g : Nat} {l : List UInt8} (h : Whole w g l) (j : Nat) : w.frozen? ⟨g, j, none⟩ = false := by
  obtain ⟨C, h1, _⟩ := h
  simp [World.frozen?, h1]
theorem Whole.set {w : World} {g : Nat} {l : List UInt8} (h : Whole w g l) (j : Nat) (c : UInt8) (n : Int) (hn : n = c.toNat) : Whole (w.setCell ⟨g, j, none⟩ (.int .u8 n)) g (l.set j c) := by
  obtain ⟨C, h1, h2⟩ := h
  subst hn
  refine ⟨C.setIfInBounds j (.int .u8 c.toNat), by simp [World.setCell, Array.getElem?_modify, h1], ?_⟩
  rw [Array.toList_setIfInBounds, h2]; simp [Lib.byteCells]
theorem Whole.later {w w' : World} {g : Nat} {l : List UInt8} (h : Whole w g l) (hb : Below w.heap.size w w') : Whole w' g l := by
  obtain ⟨C, h1, h2⟩ := h
  exact ⟨C, (hb.block _ (lt_of_block h1)).trans h1, h2⟩
theorem Whole.string {w : World} {g c : Nat} {l : List UInt8} (h : Whole w g l) : (convert 22 9 (.slice (some ⟨g, 0, none⟩) l.length c)).run Tryd.prog w = .ok (.string (str l)) w :=
  run_convert_bytes_back w _ _ _ ⟨g, 0, none⟩ c l Tryd.underlying22 Tryd.underlying5 Tryd.underlying9 (fun j hj => by rw [Addr.add_lit, Nat.zero_add]; exact h.oc.2 j hj)
theorem made_whole (w : World) (n : Nat) : Whole (w.alloc (.cells (madeCells #[.int .u8 0] n) 5)) w.heap.size (List.replicate n 0) := by
  refine ⟨_, heap_alloc_new w _, ?_⟩
  apply List.ext_getElem?
  intro i
  rcases Nat.lt_or_ge i n with h | h
  · simp [madeCells, Lib.byteCells, h, Nat.mod_one]
  · simp [madeCells, Lib.byteCells, h, Nat.mod_one]

/-- Print of right fields that are small, in one sentence: a slice, and the fault. -/
theorem Print_any (va : Value) (xs : List Fld.F) (w : World) (ha : FIn w va xs) (hs : Small xs) :
    Calls Tryd.prog 13 #[va] w fun e w' => ∃ (ao : Option Addr) (len c : Nat), e = .returned (.tuple #[.slice ao len c, .int .i64 (Fld.fault xs)]) ∧ Below w.heap.size w w' ∧ (Fld.fault xs = 0 → len = Fld.size xs) ∧ len ≤ 1000000 := by
  by_cases h : Fld.fault xs = 0
  · refine (Print_yes va xs w ha hs h).mono ?_
    rintro e w' ⟨v, rfl, hB⟩
    have hl : (Fld.print xs).length ≤ 65536 := by rw [Fld.print_length]; exact (Fld.fault_zero h).2.2
    rcases hB.1.2 with ⟨hv, hz⟩ | ⟨g, cap, cur, hv, _⟩
    · exact ⟨none, 0, 0, by rw [hv, h], hB.2, fun _ => by rw [← Fld.print_length]; exact hz.symm, by omega⟩
    · exact ⟨_, (Fld.print xs).length, cap, by rw [hv, h], hB.2, fun _ => Fld.print_length xs, by omega⟩
  · refine (Print_no va xs w ha hs h).mono ?_
    rintro e w' ⟨rfl, hb⟩
    exact ⟨none, 0, 0, rfl, hb, fun e => absurd e h, by omega⟩
/-- Octets of a string, read as a header. -/
theorem Parse_str (s : ByteArray) (l : List UInt8) (w : World) (hs : s.data.toList = l) (hl : l.length ≤ 1000000) (hm : MaxOk w) :
    ∃ W1 c, (convert 9 22 (.string s)).run Tryd.prog w = .ok (.slice (some ⟨w.heap.size, 0, none⟩) s.size c) W1 ∧ Below w.heap.size w W1 ∧
      Calls Tryd.prog 9 #[.slice (some ⟨w.heap.size, 0, none⟩) s.size c] W1 fun e w' => ∃ v, e = .returned (.tuple #[v, .int .i64 (Fld.parse l).2.1, .int .i64 (Fld.parse l).2.2]) ∧ FBuf W1 w' v (Fld.parse l).1 := by
  have hcv := run_bytes_of_string (P := Tryd.prog) w 9 22 5 s Tryd.underlying9 Tryd.underlying22 Tryd.underlying5
  have hR := Row.copy w s (grownCap w s.size 0 5)
  have hge : s.size ≤ grownCap w s.size 0 5 := grownCap_ge w _ _ _
  have hle : grownCap w s.size 0 5 ≤ maxLen := grownCap_le_maxLen w s.size 0 5 (by rw [← Oct.length_size, hs]; unfold maxLen; omega)
  have hb1 : Below w.heap.size w ((w.drew.alloc (.cells (bytesRow s (grownCap w s.size 0 5)) 5 ((bytesRow s (grownCap w s.size 0 5)).size, (bytesRow s (grownCap w s.size 0 5)).size + 1)))) := (Below.refl _ w).drew.alloc (Nat.le_refl _) _
  refine ⟨_, _, hcv, hb1, ?_⟩
  have hsz : s.size = l.length := by rw [← hs, Oct.length_size]
  rw [hsz] at hge hle ⊢
  rw [hs] at hR
  rw [hsz] at hR hb1
  exact Parse_w w.heap.size _ l _ hl hge (by unfold maxLen at hle; omega) ⟨hR.lt, fun j hj => (hR.cell j hj).1⟩ (hm.later hb1)

set_option maxHeartbeats 6400000 in
set_option maxRecDepth 100000 in
theorem bounds_w (a b : Int) (w : World) (_ha : -9223372036854775808 ≤ a ∧ a ≤ 9223372036854775807) (_hb : -9223372036854775808 ≤ b ∧ b ≤ 9223372036854775807) (hm : MaxOk w) :
    Calls Tryd.prog 6 #[.int .i64 a, .int .i64 b] w fun e w' => e = .returned (.bool true) ∧ Below w.heap.size w w' := by
  have cA := awake_w w hm
  have HM := Lib.hid hm
  obtain ⟨q1, hq1⟩ : ∃ q, a.tmod 9 = q := ⟨_, rfl⟩
  have b1 := tmod_in a 9 (by omega)
  rw [hq1] at b1
  obtain ⟨b10, b11⟩ := b1
  obtain ⟨K, hK⟩ : ∃ K : Nat, (q1 + 9).tmod 9 = K := ⟨((q1 + 9).tmod 9).toNat, by have := Int.tmod_nonneg 9 (show 0 ≤ q1 + 9 by omega); omega⟩
  have hK8 : K ≤ 8 := by have := (tmod_in (q1 + 9) 9 (by omega)).2; omega
  obtain ⟨q2, hq2⟩ : ∃ q, b.tmod 20 = q := ⟨_, rfl⟩
  have b2 := tmod_in b 20 (by omega)
  rw [hq2] at b2
  obtain ⟨b20, b21⟩ := b2
  obtain ⟨J, hJ⟩ : ∃ J : Nat, (q2 + 20).tmod 20 = J := ⟨((q2 + 20).tmod 20).toNat, by have := Int.tmod_nonneg 20 (show 0 ≤ q2 + 20 by omega); omega⟩
  have hJ8 : J ≤ 19 := by have := (tmod_in (q2 + 20) 20 (by omega)).2; omega
  obtain ⟨N, hN⟩ : ∃ N : Nat, (65525 : Int) + K = N := ⟨65525 + K, by omega⟩
  obtain ⟨n, hn⟩ : ∃ n : Nat, (120 : Int) + J = n := ⟨120 + J, by omega⟩
  have hmk := run_make_row' (P := Tryd.prog) 22 5 (.int .u8 0) 1 Tryd.underlying22 bytes_info rfl .i64 .i64 N (by omega) (by omega)
  have hN9 : N ≤ 65533 := by omega
  clear _ha _hb hm
  go_enter Tryd.func6, Tryd.ntmps6
  go_wp2_with fail
  refine cA.mono ?_
  rintro e w1 ⟨rfl, hb1⟩
  have hWh := made_whole w1 N
  have hb2 : Below w.heap.size w (w1.alloc (.cells (madeCells #[.int .u8 0] N) 5)) := hb1.alloc hb1.size _
  go_wp2_with fail
  generalize w1.alloc (.cells (madeCells #[.int .u8 0] N) 5) = W1 at *
  have HWh : Hid (Whole W1 w1.heap.size (filling N 0)) := by rw [filling_zero]; exact hWh
  clear hWh
  go_loopw [8] (fun i wr => ∃ k : Nat, k ≤ N ∧ i = .int .i64 k ∧ Hid (Whole wr w1.heap.size (filling N k)) ∧ Below w.heap.size w wr) (fun i _ => N - (intOf i).toNat)
  case atStart => exact ⟨0, by omega, rfl, HWh, hb2⟩
  case round =>
    obtain ⟨k, hk, rfl, HW, hbk⟩ := hrel
    clear HWh hb2
    by_cases hlt : k < N
    · have hkl : k < (filling N k).length := by rw [filling_length N k hk]; exact hlt
      have hc := HW.out.oc.2 k hkl
      have hf := HW.out.free k
      have HS : Hid (Whole (wr.setCell ⟨w1.heap.size, k, none⟩ (.int .u8 120)) w1.heap.size (filling N (k + 1))) := by
        rw [← filling_next N k hlt]; exact HW.out.set k 120 120 rfl
      generalize ((filling N k)[k].toNat : Int) = z at hc
      have hbs := hbk.setCell (p := ⟨w1.heap.size, k, none⟩) hb1.size (.int .u8 120)
      clear hkl
      go_wp2_with fail
      go_roundw
      case rel => exact ⟨k + 1, by omega, by go_num, HS, hbs⟩
      case measure => simp [intOf]; omega
    · obtain rfl : k = N := by omega
      rw [filling_full] at HW
      have hsx := HW.out.string (c := k)
      rw [exes_length] at hsx
      obtain ⟨X, hX⟩ : ∃ X, X = str (exes k) := ⟨_, rfl⟩
      rw [← hX] at hsx
      have hXs : X.size = k := by rw [hX, str_size, exes_length]
      have HX := Lib.hid hX
      obtain ⟨E1, hE1⟩ : ∃ E1, E1 = Fld.fault [fA k] := ⟨_, rfl⟩
      obtain ⟨p1, hEp, hp1⟩ : ∃ p1 : Nat, (Fld.parse ([97, 58, 32] ++ exes k ++ [13, 10, 13, 10])).2 = (p1, E1) ∧ Hid (((K : Int) ≤ 4 ∧ E1 = 0 ∧ p1 = k + 7) ∨ (¬ (K : Int) ≤ 4 ∧ E1 = 12 ∧ p1 = 0)) := by
        rw [fA_parse, hE1, fA_fault]
        by_cases h : 65536 < k + 7
        · rw [if_pos h, if_pos h]; exact ⟨0, rfl, .inr ⟨by omega, rfl, rfl⟩⟩
        · rw [if_neg h, if_neg h]; exact ⟨k + 7, rfl, .inl ⟨by omega, rfl, rfl⟩⟩
      have cP := fun (g : Nat) (w3 : World) (h : FIn w3 (.slice (some ⟨g, 0, none⟩) 1 1) [fA k]) => Print_any _ [fA k] w3 h ⟨by show 1 ≤ 1000000; omega, fun f hf => by simp at hf; subst hf; exact ⟨by show ([97] : List UInt8).length ≤ 1000000; decide, by show (exes k).length ≤ 1000000; rw [exes_length]; omega⟩⟩
      rw [← hE1, fA_size] at cP
      clear hE1
      have hfin := fin_one (wr.alloc (.cells #[.string ⟨#[97]⟩, .string X] 49)) [97] (exes k)
      rw [← hX, show (wr.alloc (.cells #[.string ⟨#[97]⟩, .string X] 49)).heap.size = wr.heap.size + 1 by simp] at hfin
      have hb3 : Below wr.heap.size wr ((wr.alloc (.cells #[.string ⟨#[97]⟩, .string X] 49)).alloc (.cells #[.string ⟨#[97]⟩, .string X] 49)) := ((Below.refl _ wr).alloc (Nat.le_refl _) _).alloc (by simp) _
      have hP := cP (wr.heap.size + 1) _ hfin
      clear hfin cP hX hlt hk cA
      go_wp2_with fail
      refine hP.mono ?_
      rintro e w3 ⟨ao3, l3, c3, rfl, hb3', hl3, hl39⟩
      have hbw3 : Below wr.heap.size wr w3 := hb3.trans (hb3'.mono hb3.size)
      have HW3 := Lib.hid (HW.out.later hbw3)
      have hsx3 := HW3.out.string (c := k)
      rw [exes_length, ← HX.out] at hsx3
      have hm3 := (HM.out.later hbk).later hbw3
      obtain ⟨W4, c4, hcv4, hb4, hpar4⟩ := Parse_str (⟨#[97, 58, 32]⟩ ++ X ++ ⟨#[13, 10, 13, 10]⟩) ([97, 58, 32] ++ exes k ++ [13, 10, 13, 10]) w3 (by rw [HX.out]; simp [str]) (by rw [List.length_append, List.length_append, exes_length]; show 3 + k + 4 ≤ 1000000; omega) hm3
      rw [hEp] at hpar4
      have a1 : (⟨#[97, 58, 32]⟩ : ByteArray).size + X.size ≤ 9223372036854775807 := by rw [hXs, show (⟨#[97, 58, 32]⟩ : ByteArray).size = 3 from rfl]; omega
      have a2 : (⟨#[97, 58, 32]⟩ ++ X : ByteArray).size + (⟨#[13, 10, 13, 10]⟩ : ByteArray).size ≤ 9223372036854775807 := by rw [ByteArray.size_append, hXs, show (⟨#[97, 58, 32]⟩ : ByteArray).size = 3 from rfl, show (⟨#[13, 10, 13, 10]⟩ : ByteArray).size = 4 from rfl]; omega
      generalize (⟨#[97, 58, 32]⟩ ++ X ++ ⟨#[13, 10, 13, 10]⟩ : ByteArray).size = M at hcv4 hpar4
      have HL3 := Lib.hid hl3
      have hbw4 : Below w.heap.size w W4 := (hbk.trans (hbw3.mono hbk.size)).trans (hb4.mono (Nat.le_trans hbk.size hbw3.size))
      clear hP hb3 hsx hEp hl3 hb3'
      go_wp2_with fail
      refine hpar4.mono ?_
      rintro e w5 ⟨v5, rfl, hB5⟩
      have hb35 : Below w3.heap.size w3 w5 := hb4.trans (hB5.2.mono hb4.size)
      have hbw5 : Below w.heap.size w w5 := hbw4.trans (hB5.2.mono hbw4.size)
      have HW5 := Lib.hid (HW3.out.later hb35)
      clear hpar4 hcv4 hsx3 hB5 hbw4 hb4 HW3 HW hb35 hm3 a1 a2
      rcases hp1.out with ⟨hK4, rfl, rfl⟩ | ⟨hK4, rfl, rfl⟩
      · obtain rfl := HL3.out rfl
        clear HL3 hp1
        go_wp2_with fail
        go_loopw [15, 16, 17] (fun v s i wx => ∃ (j : Nat) (t : ByteArray), j ≤ n ∧ i = .int .i64 j ∧ s = .string t ∧ t.size = 6 * j ∧ Hid (t = str (Fld.lines (bs j))) ∧ FBuf w5 wx v (bs j)) (fun _ _ i _ => n - (intOf i).toNat)
        case atStart => exact ⟨0, ⟨#[]⟩, by omega, rfl, rfl, rfl, Lib.hid rfl, FBuf.nil _⟩
        case round =>
          obtain ⟨j, t, hj, rfl, rfl, ht, HT, hF⟩ := hrel
          have hn9 : n ≤ 139 := by omega
          by_cases hjn : j < n
          · have HS : Hid (t ++ ⟨#[98, 58, 32, 99, 13, 10]⟩ = str (Fld.lines (bs (j + 1)))) := by
              refine Lib.hid ?_
              rw [bs_lines, HT.out, ← str_of (str _ ++ _)]
              congr 1
            have hts : (t ++ ⟨#[98, 58, 32, 99, 13, 10]⟩ : ByteArray).size = 6 * (j + 1) := by
              rw [ByteArray.size_append, ht, show (⟨#[98, 58, 32, 99, 13, 10]⟩ : ByteArray).size = 6 from rfl]; omega
            have a1 : t.size + (⟨#[98, 58, 32, 99, 13, 10]⟩ : ByteArray).size ≤ 9223372036854775807 := by
              rw [ht, show (⟨#[98, 58, 32, 99, 13, 10]⟩ : ByteArray).size = 6 from rfl]; omega
            have hbl : (bs j).length ≤ 1000000000 := by rw [bs_length]; omega
            have HBS := Lib.hid (bs_succ j)
            clear ht
            go_wp2_with (at_builtin; refine appF hF fB hbl rfl _ _ rfl ⟨#[98]⟩ ⟨#[99]⟩ rfl rfl rfl rfl ?_; intro v6 w6 hF6)
            go_roundw
            case rel => exact ⟨j + 1, _, by omega, by go_num, rfl, hts, HS, by rw [HBS.out]; exact hF6⟩
            case measure => simp [intOf]; omega
          · obtain rfl : j = n := by omega
            have hP := Print_any _ (bs j) _ hF.fin (bs_small j hn9)
            have HE2 : Hid (Fld.fault (bs j) = if 128 < j then 13 else 0) := Lib.hid (bs_fault j hn9)
            generalize Fld.fault (bs j) = E2 at hP HE2
            obtain ⟨af, cf, hvf, _⟩ := hF.fin
            have hbF : Below w5.heap.size w5 _ := hF.2
            subst hvf
            go_wp2_with fail
            refine hP.mono ?_
            rintro e w6 ⟨ao6, l6, c6, rfl, hb6, _, hl69⟩
            have hb56 : Below w5.heap.size w5 w6 := hbF.trans (hb6.mono hbF.size)
            have hbw6 : Below w.heap.size w w6 := hbw5.trans (hb56.mono hbw5.size)
            have HW6 := Lib.hid (HW5.out.later hb56)
            obtain ⟨W7, c7, hcv7, hb7, hpar7⟩ := Parse_str (t ++ ⟨#[13, 10]⟩) (Fld.lines (bs j) ++ [13, 10]) w6 (by rw [HT.out]; simp [str]) (by rw [List.length_append, bs_lines_length]; show 6 * j + 2 ≤ 1000000; omega) (HM.out.later hbw6)
            have a1 : t.size + (⟨#[13, 10]⟩ : ByteArray).size ≤ 9223372036854775807 := by
              rw [ht, show (⟨#[13, 10]⟩ : ByteArray).size = 2 from rfl]; omega
            generalize (t ++ ⟨#[13, 10]⟩ : ByteArray).size = M7 at hcv7 hpar7
            obtain ⟨P7, hP7⟩ : ∃ P, P = Fld.parse (Fld.lines (bs j) ++ [13, 10]) := ⟨_, rfl⟩
            rw [← hP7] at hpar7
            have HP7 := Lib.hid hP7
            clear hP hP7 hb6 ht
            obtain ⟨f7, n7, e7⟩ := P7
            go_wp2_with fail
            refine hpar7.mono ?_
            rintro e w8 ⟨v8, rfl, hB8⟩
            have hb68 : Below w6.heap.size w6 w8 := hb7.trans (hB8.2.mono hb7.size)
            have hbw8 : Below w.heap.size w w8 := hbw6.trans (hb68.mono hbw6.size)
            have hN8 := HW6.out.later hb68
            have hpar8 := Parse_w w1.heap.size k (exes k) w8 (by rw [exes_length]; omega) (by rw [exes_length]; exact Nat.le_refl _) (by omega) hN8.oc (HM.out.later hbw8)
            rw [exes_length, Fld.parse_none (exes_plain k) (by rw [exes_length]; omega)] at hpar8
            obtain ⟨a8, k8, hv8, _⟩ := hB8.fin
            obtain ⟨L8, hL8⟩ : ∃ L, L = f7.length := ⟨_, rfl⟩
            have HL8 := Lib.hid hL8
            rw [← hL8] at hv8
            subst hv8
            clear hpar7 hcv7 hb7 hB8 hL8 hN8 hb68
            go_wp2_with fail
            refine hpar8.mono ?_
            rintro e w9 ⟨v9, rfl, hB9⟩
            have hbw9 : Below w.heap.size w w9 := hbw8.trans (hB9.2.mono hbw8.size)
            clear hpar8 hB9
            by_cases h128 : 128 < j
            · have e2 := HE2.out
              rw [if_pos h128] at e2
              have e3 := HP7.out.trans (bs_no j h128 hn9)
              simp only [Prod.mk.injEq] at e3
              obtain ⟨rfl, rfl, rfl⟩ := e3
              subst e2
              have b128 : (128 : Int) < (j : Int) := by omega
              clear h128 HE2 HP7
              go_wp2_with fail
              go_ret
              exact ⟨rfl, hbw9⟩
            · have e2 := HE2.out
              rw [if_neg h128] at e2
              have e3 := HP7.out.trans (bs_yes j (by omega))
              simp only [Prod.mk.injEq] at e3
              obtain ⟨rfl, rfl, rfl⟩ := e3
              subst e2
              have hL := HL8.out
              rw [bs_length] at hL
              subst hL
              have b128 : ¬ (128 : Int) < (L8 : Int) := by omega
              clear h128 HE2 HP7
              go_wp2_with fail
              go_ret
              exact ⟨rfl, hbw9⟩
      · clear HL3 hp1
        go_wp2_with fail
        go_loopw [15, 16, 17] (fun v s i wx => ∃ (j : Nat) (t : ByteArray), j ≤ n ∧ i = .int .i64 j ∧ s = .string t ∧ t.size = 6 * j ∧ Hid (t = str (Fld.lines (bs j))) ∧ FBuf w5 wx v (bs j)) (fun _ _ i _ => n - (intOf i).toNat)
        case atStart => exact ⟨0, ⟨#[]⟩, by omega, rfl, rfl, rfl, Lib.hid rfl, FBuf.nil _⟩
        case round =>
          obtain ⟨j, t, hj, rfl, rfl, ht, HT, hF⟩ := hrel
          have hn9 : n ≤ 139 := by omega
          by_cases hjn : j < n
          · have HS : Hid (t ++ ⟨#[98, 58, 32, 99, 13, 10]⟩ = str (Fld.lines (bs (j + 1)))) := by
              refine Lib.hid ?_
              rw [bs_lines, HT.out, ← str_of (str _ ++ _)]
              congr 1
            have hts : (t ++ ⟨#[98, 58, 32, 99, 13, 10]⟩ : ByteArray).size = 6 * (j + 1) := by
              rw [ByteArray.size_append, ht, show (⟨#[98, 58, 32, 99, 13, 10]⟩ : ByteArray).size = 6 from rfl]; omega
            have a1 : t.size + (⟨#[98, 58, 32, 99, 13, 10]⟩ : ByteArray).size ≤ 9223372036854775807 := by
              rw [ht, show (⟨#[98, 58, 32, 99, 13, 10]⟩ : ByteArray).size = 6 from rfl]; omega
            have hbl : (bs j).length ≤ 1000000000 := by rw [bs_length]; omega
            have HBS := Lib.hid (bs_succ j)
            clear ht
            go_wp2_with (at_builtin; refine appF hF fB hbl rfl _ _ rfl ⟨#[98]⟩ ⟨#[99]⟩ rfl rfl rfl rfl ?_; intro v6 w6 hF6)
            go_roundw
            case rel => exact ⟨j + 1, _, by omega, by go_num, rfl, hts, HS, by rw [HBS.out]; exact hF6⟩
            case measure => simp [intOf]; omega
          · obtain rfl : j = n := by omega
            have hP := Print_any _ (bs j) _ hF.fin (bs_small j hn9)
            have HE2 : Hid (Fld.fault (bs j) = if 128 < j then 13 else 0) := Lib.hid (bs_fault j hn9)
            generalize Fld.fault (bs j) = E2 at hP HE2
            obtain ⟨af, cf, hvf, _⟩ := hF.fin
            have hbF : Below w5.heap.size w5 _ := hF.2
            subst hvf
            go_wp2_with fail
            refine hP.mono ?_
            rintro e w6 ⟨ao6, l6, c6, rfl, hb6, _, hl69⟩
            have hb56 : Below w5.heap.size w5 w6 := hbF.trans (hb6.mono hbF.size)
            have hbw6 : Below w.heap.size w w6 := hbw5.trans (hb56.mono hbw5.size)
            have HW6 := Lib.hid (HW5.out.later hb56)
            obtain ⟨W7, c7, hcv7, hb7, hpar7⟩ := Parse_str (t ++ ⟨#[13, 10]⟩) (Fld.lines (bs j) ++ [13, 10]) w6 (by rw [HT.out]; simp [str]) (by rw [List.length_append, bs_lines_length]; show 6 * j + 2 ≤ 1000000; omega) (HM.out.later hbw6)
            have a1 : t.size + (⟨#[13, 10]⟩ : ByteArray).size ≤ 9223372036854775807 := by
              rw [ht, show (⟨#[13, 10]⟩ : ByteArray).size = 2 from rfl]; omega
            generalize (t ++ ⟨#[13, 10]⟩ : ByteArray).size = M7 at hcv7 hpar7
            obtain ⟨P7, hP7⟩ : ∃ P, P = Fld.parse (Fld.lines (bs j) ++ [13, 10]) := ⟨_, rfl⟩
            rw [← hP7] at hpar7
            have HP7 := Lib.hid hP7
            clear hP hP7 hb6 ht
            obtain ⟨f7, n7, e7⟩ := P7
            go_wp2_with fail
            refine hpar7.mono ?_
            rintro e w8 ⟨v8, rfl, hB8⟩
            have hb68 : Below w6.heap.size w6 w8 := hb7.trans (hB8.2.mono hb7.size)
            have hbw8 : Below w.heap.size w w8 := hbw6.trans (hb68.mono hbw6.size)
            have hN8 := HW6.out.later hb68
            have hpar8 := Parse_w w1.heap.size k (exes k) w8 (by rw [exes_length]; omega) (by rw [exes_length]; exact Nat.le_refl _) (by omega) hN8.oc (HM.out.later hbw8)
            rw [exes_length, Fld.parse_none (exes_plain k) (by rw [exes_length]; omega)] at hpar8
            obtain ⟨a8, k8, hv8, _⟩ := hB8.fin
            obtain ⟨L8, hL8⟩ : ∃ L, L = f7.length := ⟨_, rfl⟩
            have HL8 := Lib.hid hL8
            rw [← hL8] at hv8
            subst hv8
            clear hpar7 hcv7 hb7 hB8 hL8 hN8 hb68
            go_wp2_with fail
            refine hpar8.mono ?_
            rintro e w9 ⟨v9, rfl, hB9⟩
            have hbw9 : Below w.heap.size w w9 := hbw8.trans (hB9.2.mono hbw8.size)
            clear hpar8 hB9
            by_cases h128 : 128 < j
            · have e2 := HE2.out
              rw [if_pos h128] at e2
              have e3 := HP7.out.trans (bs_no j h128 hn9)
              simp only [Prod.mk.injEq] at e3
              obtain ⟨rfl, rfl, rfl⟩ := e3
              subst e2
              have b128 : (128 : Int) < (j : Int) := by omega
              clear h128 HE2 HP7
              go_wp2_with fail
              go_ret
              exact ⟨rfl, hbw9⟩
            · have e2 := HE2.out
              rw [if_neg h128] at e2
              have e3 := HP7.out.trans (bs_yes j (by omega))
              simp only [Prod.mk.injEq] at e3
              obtain ⟨rfl, rfl, rfl⟩ := e3
              subst e2
              have hL := HL8.out
              rw [bs_length] at hL
              subst hL
              have b128 : ¬ (128 : Int) < (L8 : Int) := by omega
              clear h128 HE2 HP7
              go_wp2_with fail
              go_ret
              exact ⟨rfl, hbw9⟩
end Go.Proofs.YtlekbnbdjahegaaDoor
