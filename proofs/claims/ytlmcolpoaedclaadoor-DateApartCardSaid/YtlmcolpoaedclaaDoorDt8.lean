/- Package date: what a text's words say, if it is a form. -/
import Derived.Test.YtlmcolpoaedclaaDoorDt7
namespace Go.Proofs.YtlmcolpoaedclaaDoor
open Go.RowKit

theorem field_size (s x : ByteArray) (h : x ∈ Lib.goFieldsP Dt.sepR s) : x.size ≤ s.size := by
  unfold Lib.goFieldsP at h
  obtain ⟨p, _, rfl⟩ := List.mem_map.1 h
  rw [ByteArray.size_extract]; omega
theorem fields_len (s : ByteArray) : (Dt.fields s).length = (Lib.goFieldsP Dt.sepR s).length := by unfold Dt.fields; rw [List.length_map]
theorem fields_at (s : ByteArray) (j : Nat) (h : j < (Lib.goFieldsP Dt.sepR s).length) : (Dt.fields s).getD j [] = ((Lib.goFieldsP Dt.sepR s)[j]).data.toList := by
  unfold Dt.fields
  rw [List.getD_eq_getElem?_getD, List.getElem?_eq_getElem (by simpa using h)]
  simp
theorem readW_no (s : ByteArray) (h : ¬ (Lib.goFieldsP Dt.sepR s).length = 8) (h' : ¬ (Lib.goFieldsP Dt.sepR s).length = 7) : Dt.readW (Dt.fields s) = (0, false) := by
  unfold Dt.readW
  rw [fields_len, if_neg (by omega)]
theorem part_bad {ws : List (List UInt8)} {k : Nat} (hk : k < 6) (h : (Dt.part ws k).2 = false) : Dt.readW ws = (0, false) := by
  have hr : Dt.readable ws = false := by
    unfold Dt.readable
    have : k = 0 ∨ k = 1 ∨ k = 2 ∨ k = 3 ∨ k = 4 ∨ k = 5 := by omega
    rcases this with rfl | rfl | rfl | rfl | rfl | rfl <;> simp [h]
  unfold Dt.readW
  split
  · rw [hr]; rfl
  · rfl
theorem readW_yes {ws : List (List UInt8)} (hl : ws.length = 8 ∨ ws.length = 7) (h : ∀ j, j < 6 → (Dt.part ws j).2 = true) : Dt.readW ws = (Dt.momW ws, decide (0 ≤ Dt.momW ws) && decide (Dt.momW ws ≤ Dt.last)) := by
  unfold Dt.readW
  rw [if_pos hl, if_pos]
  unfold Dt.readable
  simp [h]

/-- The parts that have been read: the first k cells of block P. -/
def Read (ws : List (List UInt8)) (P k : Nat) (w : World) : Prop := ∃ C : Array Value, w.heap[P]? = some (.cells C 56) ∧ C.size = 6 ∧ ∀ j, j < k → C[j]? = some (.int .i64 (Dt.part ws j).1)
theorem Read.later {ws : List (List UInt8)} {P k : Nat} {w w' : World} (h : Read ws P k w) (hb : Below w.heap.size w w') : Read ws P k w' := by
  obtain ⟨C, h1, h2, h3⟩ := h
  exact ⟨C, by rw [hb.block P (lt_of_block h1)]; exact h1, h2, h3⟩
theorem Read.room {ws : List (List UInt8)} {P k : Nat} {w : World} (h : Read ws P k w) (j : Nat) (hj : j < 6) : (∃ v, w.cell? ⟨P, j, none⟩ = some v) ∧ w.frozen? ⟨P, j, none⟩ = false := by
  obtain ⟨C, h1, h2, h3⟩ := h
  constructor
  · simp only [World.cell?, h1]; exact ⟨C[j]'(by omega), by simp [h2, hj]⟩
  · simp only [World.frozen?, h1]; simp
theorem Read.cell {ws : List (List UInt8)} {P k : Nat} {w : World} (h : Read ws P k w) (j : Nat) (hj : j < k) : w.cell? ⟨P, j, none⟩ = some (.int .i64 (Dt.part ws j).1) := by
  obtain ⟨C, h1, h2, h3⟩ := h
  simp only [World.cell?, h1]; exact h3 j hj
theorem Read.put {ws : List (List UInt8)} {P k : Nat} {w : World} (h : Read ws P k w) (hk : k < 6) : Read ws P (k + 1) (w.setCell ⟨P, k, none⟩ (.int .i64 (Dt.part ws k).1)) := by
  have hlt : P < w.heap.size := by obtain ⟨C, h1, _⟩ := h; exact lt_of_block h1
  obtain ⟨C, h1, h2, h3⟩ := h
  refine ⟨C.setIfInBounds k (.int .i64 (Dt.part ws k).1), ?_, by simp [h2], fun j hj => ?_⟩
  · show (w.heap.modify P _)[P]? = _
    have h' : w.heap[P] = .cells C 56 := by simpa [Array.getElem?_eq_getElem hlt] using h1
    rw [Array.getElem?_eq_getElem (by simpa using hlt), Array.getElem_modify_self, h']
    rfl
  · by_cases hjk : j = k
    · subst hjk; simp [h2, hk]
    · rw [Array.getElem?_setIfInBounds_ne (by omega)]
      exact h3 j (by omega)
theorem Read.start (ws : List (List UInt8)) (w : World) (C : Array Value) (hC : C.size = 6) : Read ws w.heap.size 0 (w.alloc (.cells C 56)) := ⟨C, heap_alloc_new w _, hC, fun j hj => by omega⟩
theorem part_month (ws : List (List UInt8)) : ∃ m : Nat, (Dt.part ws 1).1 = m ∧ m < 12 := by
  have h := Dt.worthP_bd 1 (ws.getD ((Dt.places ws.length).getD 1 0) [])
  have h2 := Dt.worthP_month (ws.getD ((Dt.places ws.length).getD 1 0) [])
  unfold Dt.part
  exact ⟨(Dt.worthP 1 (ws.getD ((Dt.places ws.length).getD 1 0) [])).1.toNat, by omega, by omega⟩
theorem part_bd (ws : List (List UInt8)) (j : Nat) : 0 ≤ (Dt.part ws j).1 ∧ (Dt.part ws j).1 ≤ 11899 := Dt.worthP_bd _ _
theorem mom_bd (y d h mi se : Int) (m : Nat) (_hm : m < 12) (y0 : 0 ≤ y) (y1 : y ≤ 11899) (d0 : 0 ≤ d) (d1 : d ≤ 11899) (h0 : 0 ≤ h) (h1 : h ≤ 11899) (i0 : 0 ≤ mi) (i1 : mi ≤ 11899) (s0 : 0 ≤ se) (s1 : se ≤ 11899) :
    -1000000000000 ≤ Dt.mom y m d h mi se ∧ Dt.mom y m d h mi se ≤ 1000000000000 := by
  have a := Dt.nyT_bd y y0 y1
  have b := Dt.cum_bd y m
  unfold Dt.mom
  omega

def pl8 (k : Nat) : Nat := ([3, 2, 1, 4, 5, 6] : List Nat).getD k 0
theorem pl8_ix (k : Nat) (h : k < 6) (w : World) : (Instr.index 56 (.agg #[.int .i64 3, .int .i64 2, .int .i64 1, .int .i64 4, .int .i64 5, .int .i64 6]) (.int .i64 k)).run Tryd.prog w = .ok (.int .i64 (pl8 k)) w := by
  have : k = 0 ∨ k = 1 ∨ k = 2 ∨ k = 3 ∨ k = 4 ∨ k = 5 := by omega
  rcases this with rfl | rfl | rfl | rfl | rfl | rfl <;> (show _ = _; kernel_rfl)
theorem pl8_lt (k : Nat) (h : k < 6) : pl8 k < 8 := by
  have : k = 0 ∨ k = 1 ∨ k = 2 ∨ k = 3 ∨ k = 4 ∨ k = 5 := by omega
  rcases this with rfl | rfl | rfl | rfl | rfl | rfl <;> decide

set_option maxHeartbeats 3200000 in
set_option maxRecDepth 100000 in
theorem read_8 (s : ByteArray) (w : World) (hT : DTabs w) (hs : s.size ≤ 33) (hn : (Lib.goFieldsP Dt.sepR s).length = 8) :
    Calls Tryd.prog 16 #[.string s] w fun e w' => e = .returned (.tuple #[.int .i64 (Dt.readW (Dt.fields s)).1, .bool (Dt.readW (Dt.fields s)).2]) ∧ Below w.heap.size w w' := by
  have hF := fields_c s w (by omega)
  have hsz : ∀ j (hj : j < (Lib.goFieldsP Dt.sepR s).length), ((Lib.goFieldsP Dt.sepR s)[j]).size ≤ 1000 := fun j hj => by
    have := field_size s _ (List.getElem_mem hj); omega
  have hpt : ∀ k, k < 6 → Dt.worthP k (((Lib.goFieldsP Dt.sepR s).getD (pl8 k) ⟨#[]⟩).data.toList) = Dt.part (Dt.fields s) k := fun k hk => by
    have h1 := pl8_lt k hk
    unfold Dt.part
    rw [fields_len, hn, show (Dt.places 8).getD k 0 = pl8 k from rfl, fields_at s _ (by omega), List.getD_eq_getElem?_getD, List.getElem?_eq_getElem (by omega)]
    rfl
  have hyes := fun h => readW_yes (ws := Dt.fields s) (by rw [fields_len]; omega) h
  have hbad := fun k hk h => part_bad (ws := Dt.fields s) (k := k) hk h
  obtain ⟨ws, hws⟩ : ∃ ws, Dt.fields s = ws := ⟨_, rfl⟩
  obtain ⟨R, hR⟩ : ∃ R, Dt.readW ws = R := ⟨_, rfl⟩
  rw [hws] at hpt hyes hbad ⊢
  rw [hR] at hyes hbad ⊢
  have hs' : ¬ (33 : Int) < (s.size : Int) := by omega
  have HS := Lib.hid hsz
  have HP := Lib.hid hpt
  have HY := Lib.hid hyes
  have HB := Lib.hid hbad
  have HN := Lib.hid hn
  have HT := Lib.hid hT
  clear hsz hpt hyes hbad hn hT hws hR
  generalize hg : Lib.goFieldsP Dt.sepR s = fs at HS HP HN hF
  clear hg hs
  go_enter Tryd.func16, Tryd.ntmps16
  go_wp2_with fail
  refine hF.mono ?_
  rintro e w1 ⟨A, rfl, hcell, hb1⟩
  have HT1 := Lib.hid (HT.out.later hb1)
  have HC := Lib.hid hcell
  have hlen : fs.length = 8 := HN.out
  clear hF hcell HT
  rw [hlen]
  go_wp2_with fail
  have hb2 : Below w1.heap.size w1 ((w1.alloc (.cells #[.int .i64 3, .int .i64 2, .int .i64 1, .int .i64 4, .int .i64 5, .int .i64 6] 56)).alloc (.cells #[.int .i64 0, .int .i64 0, .int .i64 0, .int .i64 0, .int .i64 0, .int .i64 0] 56)) :=
    ((Below.refl _ _).alloc (Nat.le_refl _) _).alloc (by simp) _
  have hr2 : Read ws (w1.heap.size + 1) 0 ((w1.alloc (.cells #[.int .i64 3, .int .i64 2, .int .i64 1, .int .i64 4, .int .i64 5, .int .i64 6] 56)).alloc (.cells #[.int .i64 0, .int .i64 0, .int .i64 0, .int .i64 0, .int .i64 0, .int .i64 0] 56)) := by
    have := Read.start ws (w1.alloc (.cells #[.int .i64 3, .int .i64 2, .int .i64 1, .int .i64 4, .int .i64 5, .int .i64 6] 56)) #[.int .i64 0, .int .i64 0, .int .i64 0, .int .i64 0, .int .i64 0, .int .i64 0] rfl
    simpa using this
  generalize ((w1.alloc (.cells #[.int .i64 3, .int .i64 2, .int .i64 1, .int .i64 4, .int .i64 5, .int .i64 6] 56)).alloc (.cells #[.int .i64 0, .int .i64 0, .int .i64 0, .int .i64 0, .int .i64 0, .int .i64 0] 56)) = W2 at hb2 hr2 ⊢
  go_loopw [26] (fun i wr => ∃ k : Nat, k ≤ 6 ∧ i = .int .i64 k ∧ Read ws (w1.heap.size + 1) k wr ∧ Below w1.heap.size w1 wr ∧ Hid (∀ j, j < k → (Dt.part ws j).2 = true)) (fun i _ => 6 - (intOf i).toNat)
  case atStart => exact ⟨0, by omega, rfl, hr2, hb2, Lib.hid (fun j hj => by omega)⟩
  case round =>
    clear hr2 hb2
    obtain ⟨k, hk, rfl, hrd, hbr, HOk⟩ := hrel
    by_cases hlt : k < 6
    · have hix := pl8_ix k hlt
      have hpl := pl8_lt k hlt
      have hc := cell_later hbr (HC.out (pl8 k) (by omega))
      have hval := HP.out k hlt
      have hszx : (fs.getD (pl8 k) ⟨#[]⟩).size ≤ 1000 := by
        rw [List.getD_eq_getElem?_getD, List.getElem?_eq_getElem (by omega)]; exact HS.out _ (by omega)
      have hxe : fs[pl8 k]'(by omega) = fs.getD (pl8 k) ⟨#[]⟩ := by
        rw [List.getD_eq_getElem?_getD, List.getElem?_eq_getElem (by omega)]; rfl
      rw [hxe] at hc
      clear hxe
      generalize fs.getD (pl8 k) ⟨#[]⟩ = x at hc hval hszx
      generalize hq : pl8 k = q at hix hpl hc
      clear hq
      have hpl' : (q : Int) < 8 := by omega
      have hk' : (k : Int) < 6 := by omega
      have hW := worth_p k x (Dt.part ws k).1 (Dt.part ws k).2 wr (HT1.out.later hbr) hlt hszx hval
      obtain ⟨a0, a1⟩ := part_bd ws k
      have HX := Lib.hid (And.intro hval hszx)
      clear hval hszx
      by_cases hok : (Dt.part ws k).2 = true
      · rw [hok] at hW
        have HK := Lib.hid hok
        clear hok
        go_wp2_with fail
        refine hW.mono ?_
        rintro e w3 ⟨rfl, hb3⟩
        obtain ⟨⟨old, hold⟩, hfz⟩ := (hrd.later hb3).room k hlt
        have hrd3 := (hrd.later hb3).put hlt
        have hbr3 : Below w1.heap.size w1 w3 := hbr.trans (hb3.mono hbr.size)
        clear hW hc hrd hbr hb3
        go_wp2_with fail
        go_roundw
        case rel => exact ⟨k + 1, by omega, by go_num, hrd3, hbr3.setCell (by show _ ≤ w1.heap.size + 1; omega) _, Lib.hid (fun j hj => by
          by_cases hjk : j = k
          · rw [hjk]; exact HK.out
          · exact HOk.out j (by omega))⟩
        case measure => simp [intOf]; omega
      · have hok' : (Dt.part ws k).2 = false := by simpa using hok
        rw [hok'] at hW
        have HR := Lib.hid (HB.out k hlt hok')
        clear hok hok'
        go_wp2_with fail
        refine hW.mono ?_
        rintro e w3 ⟨rfl, hb3⟩
        have hbr3 : Below w.heap.size w w3 := hb1.trans ((hbr.trans (hb3.mono hbr.size)).mono hb1.size)
        clear hW hc hrd hbr hb3
        go_wp2_with fail
        go_ret2
        exact ⟨by rw [HR.out]; rfl, hbr3⟩
    · obtain rfl : k = 6 := by omega
      have HR := Lib.hid (HY.out HOk.out)
      have c0 := hrd.cell 0 (by omega)
      have c1 := hrd.cell 1 (by omega)
      have c2 := hrd.cell 2 (by omega)
      have c3 := hrd.cell 3 (by omega)
      have c4 := hrd.cell 4 (by omega)
      have c5 := hrd.cell 5 (by omega)
      obtain ⟨m, hm, hm12⟩ := part_month ws
      rw [hm] at c1
      obtain ⟨y0, y1⟩ := part_bd ws 0
      obtain ⟨d0, d1⟩ := part_bd ws 2
      obtain ⟨h0, h1⟩ := part_bd ws 3
      obtain ⟨i0, i1⟩ := part_bd ws 4
      obtain ⟨s0, s1⟩ := part_bd ws 5
      have hM := moment_c (Dt.part ws 0).1 (Dt.part ws 2).1 (Dt.part ws 3).1 (Dt.part ws 4).1 (Dt.part ws 5).1 m wr (HT1.out.later hbr) y0 y1 hm12 d0 d1 h0 h1 i0 i1 s0 s1
      have hmb := mom_bd (Dt.part ws 0).1 (Dt.part ws 2).1 (Dt.part ws 3).1 (Dt.part ws 4).1 (Dt.part ws 5).1 m hm12 y0 y1 d0 d1 h0 h1 i0 i1 s0 s1
      have hme : Dt.mom (Dt.part ws 0).1 m (Dt.part ws 2).1 (Dt.part ws 3).1 (Dt.part ws 4).1 (Dt.part ws 5).1 = Dt.momW ws := by unfold Dt.momW; rw [hm]
      rw [hme] at hM hmb
      obtain ⟨m0, m1⟩ := hmb
      generalize Dt.momW ws = v at hM m0 m1 HR
      clear hrd hm hme y0 y1 d0 d1 h0 h1 i0 i1 s0 s1
      generalize (Dt.part ws 0).1 = q0 at c0 hM
      generalize (Dt.part ws 2).1 = q2 at c2 hM
      generalize (Dt.part ws 3).1 = q3 at c3 hM
      generalize (Dt.part ws 4).1 = q4 at c4 hM
      generalize (Dt.part ws 5).1 = q5 at c5 hM
      have hbr0 : Below w.heap.size w wr := hb1.trans (hbr.mono hb1.size)
      by_cases g0 : 0 ≤ v
      · by_cases g1 : v ≤ 253402300799
        · go_wp2_with fail
          refine hM.mono ?_
          rintro e w3 ⟨rfl, hb3⟩
          clear hM
          go_wp2_with fail
          go_ret2
          exact ⟨by rw [HR.out]; unfold Dt.last; simp [g0, g1], hbr0.trans (hb3.mono hbr0.size)⟩
        · have g1' : decide (v ≤ 253402300799) = false := decide_eq_false g1
          go_wp2_with fail
          refine hM.mono ?_
          rintro e w3 ⟨rfl, hb3⟩
          clear hM
          go_wp2_with fail
          go_ret2
          exact ⟨by rw [HR.out]; unfold Dt.last; simp [g0, g1], hbr0.trans (hb3.mono hbr0.size)⟩
      · have g0' : decide (0 ≤ v) = false := decide_eq_false g0
        go_wp2_with fail
        refine hM.mono ?_
        rintro e w3 ⟨rfl, hb3⟩
        clear hM
        go_wp2_with fail
        go_ret2
        exact ⟨by rw [HR.out, g0']; rfl, hbr0.trans (hb3.mono hbr0.size)⟩
def pl7 (k : Nat) : Nat := ([6, 1, 2, 3, 4, 5] : List Nat).getD k 0
theorem pl7_ix (k : Nat) (h : k < 6) (w : World) : (Instr.index 56 (.agg #[.int .i64 6, .int .i64 1, .int .i64 2, .int .i64 3, .int .i64 4, .int .i64 5]) (.int .i64 k)).run Tryd.prog w = .ok (.int .i64 (pl7 k)) w := by
  have : k = 0 ∨ k = 1 ∨ k = 2 ∨ k = 3 ∨ k = 4 ∨ k = 5 := by omega
  rcases this with rfl | rfl | rfl | rfl | rfl | rfl <;> (show _ = _; kernel_rfl)
theorem pl7_lt (k : Nat) (h : k < 6) : pl7 k < 7 := by
  have : k = 0 ∨ k = 1 ∨ k = 2 ∨ k = 3 ∨ k = 4 ∨ k = 5 := by omega
  rcases this with rfl | rfl | rfl | rfl | rfl | rfl <;> decide

set_option maxHeartbeats 3200000 in
set_option maxRecDepth 100000 in
theorem read_7 (s : ByteArray) (w : World) (hT : DTabs w) (hs : s.size ≤ 33) (hn : (Lib.goFieldsP Dt.sepR s).length = 7) :
    Calls Tryd.prog 16 #[.string s] w fun e w' => e = .returned (.tuple #[.int .i64 (Dt.readW (Dt.fields s)).1, .bool (Dt.readW (Dt.fields s)).2]) ∧ Below w.heap.size w w' := by
  have hF := fields_c s w (by omega)
  have hsz : ∀ j (hj : j < (Lib.goFieldsP Dt.sepR s).length), ((Lib.goFieldsP Dt.sepR s)[j]).size ≤ 1000 := fun j hj => by
    have := field_size s _ (List.getElem_mem hj); omega
  have hpt : ∀ k, k < 6 → Dt.worthP k (((Lib.goFieldsP Dt.sepR s).getD (pl7 k) ⟨#[]⟩).data.toList) = Dt.part (Dt.fields s) k := fun k hk => by
    have h1 := pl7_lt k hk
    unfold Dt.part
    rw [fields_len, hn, show (Dt.places 7).getD k 0 = pl7 k from rfl, fields_at s _ (by omega), List.getD_eq_getElem?_getD, List.getElem?_eq_getElem (by omega)]
    rfl
  have hyes := fun h => readW_yes (ws := Dt.fields s) (by rw [fields_len]; omega) h
  have hbad := fun k hk h => part_bad (ws := Dt.fields s) (k := k) hk h
  obtain ⟨ws, hws⟩ : ∃ ws, Dt.fields s = ws := ⟨_, rfl⟩
  obtain ⟨R, hR⟩ : ∃ R, Dt.readW ws = R := ⟨_, rfl⟩
  rw [hws] at hpt hyes hbad ⊢
  rw [hR] at hyes hbad ⊢
  have hs' : ¬ (33 : Int) < (s.size : Int) := by omega
  have HS := Lib.hid hsz
  have HP := Lib.hid hpt
  have HY := Lib.hid hyes
  have HB := Lib.hid hbad
  have HN := Lib.hid hn
  have HT := Lib.hid hT
  clear hsz hpt hyes hbad hn hT hws hR
  generalize hg : Lib.goFieldsP Dt.sepR s = fs at HS HP HN hF
  clear hg hs
  go_enter Tryd.func16, Tryd.ntmps16
  go_wp2_with fail
  refine hF.mono ?_
  rintro e w1 ⟨A, rfl, hcell, hb1⟩
  have HT1 := Lib.hid (HT.out.later hb1)
  have HC := Lib.hid hcell
  have hlen : fs.length = 7 := HN.out
  clear hF hcell HT
  rw [hlen]
  go_wp2_with fail
  have hb2 : Below w1.heap.size w1 ((w1.alloc (.cells #[.int .i64 6, .int .i64 1, .int .i64 2, .int .i64 3, .int .i64 4, .int .i64 5] 56)).alloc (.cells #[.int .i64 0, .int .i64 0, .int .i64 0, .int .i64 0, .int .i64 0, .int .i64 0] 56)) :=
    ((Below.refl _ _).alloc (Nat.le_refl _) _).alloc (by simp) _
  have hr2 : Read ws (w1.heap.size + 1) 0 ((w1.alloc (.cells #[.int .i64 6, .int .i64 1, .int .i64 2, .int .i64 3, .int .i64 4, .int .i64 5] 56)).alloc (.cells #[.int .i64 0, .int .i64 0, .int .i64 0, .int .i64 0, .int .i64 0, .int .i64 0] 56)) := by
    have := Read.start ws (w1.alloc (.cells #[.int .i64 6, .int .i64 1, .int .i64 2, .int .i64 3, .int .i64 4, .int .i64 5] 56)) #[.int .i64 0, .int .i64 0, .int .i64 0, .int .i64 0, .int .i64 0, .int .i64 0] rfl
    simpa using this
  generalize ((w1.alloc (.cells #[.int .i64 6, .int .i64 1, .int .i64 2, .int .i64 3, .int .i64 4, .int .i64 5] 56)).alloc (.cells #[.int .i64 0, .int .i64 0, .int .i64 0, .int .i64 0, .int .i64 0, .int .i64 0] 56)) = W2 at hb2 hr2 ⊢
  go_loopw [26] (fun i wr => ∃ k : Nat, k ≤ 6 ∧ i = .int .i64 k ∧ Read ws (w1.heap.size + 1) k wr ∧ Below w1.heap.size w1 wr ∧ Hid (∀ j, j < k → (Dt.part ws j).2 = true)) (fun i _ => 6 - (intOf i).toNat)
  case atStart => exact ⟨0, by omega, rfl, hr2, hb2, Lib.hid (fun j hj => by omega)⟩
  case round =>
    clear hr2 hb2
    obtain ⟨k, hk, rfl, hrd, hbr, HOk⟩ := hrel
    by_cases hlt : k < 6
    · have hix := pl7_ix k hlt
      have hpl := pl7_lt k hlt
      have hc := cell_later hbr (HC.out (pl7 k) (by omega))
      have hval := HP.out k hlt
      have hszx : (fs.getD (pl7 k) ⟨#[]⟩).size ≤ 1000 := by
        rw [List.getD_eq_getElem?_getD, List.getElem?_eq_getElem (by omega)]; exact HS.out _ (by omega)
      have hxe : fs[pl7 k]'(by omega) = fs.getD (pl7 k) ⟨#[]⟩ := by
        rw [List.getD_eq_getElem?_getD, List.getElem?_eq_getElem (by omega)]; rfl
      rw [hxe] at hc
      clear hxe
      generalize fs.getD (pl7 k) ⟨#[]⟩ = x at hc hval hszx
      generalize hq : pl7 k = q at hix hpl hc
      clear hq
      have hpl' : (q : Int) < 7 := by omega
      have hk' : (k : Int) < 6 := by omega
      have hW := worth_p k x (Dt.part ws k).1 (Dt.part ws k).2 wr (HT1.out.later hbr) hlt hszx hval
      obtain ⟨a0, a1⟩ := part_bd ws k
      have HX := Lib.hid (And.intro hval hszx)
      clear hval hszx
      by_cases hok : (Dt.part ws k).2 = true
      · rw [hok] at hW
        have HK := Lib.hid hok
        clear hok
        go_wp2_with fail
        refine hW.mono ?_
        rintro e w3 ⟨rfl, hb3⟩
        obtain ⟨⟨old, hold⟩, hfz⟩ := (hrd.later hb3).room k hlt
        have hrd3 := (hrd.later hb3).put hlt
        have hbr3 : Below w1.heap.size w1 w3 := hbr.trans (hb3.mono hbr.size)
        clear hW hc hrd hbr hb3
        go_wp2_with fail
        go_roundw
        case rel => exact ⟨k + 1, by omega, by go_num, hrd3, hbr3.setCell (by show _ ≤ w1.heap.size + 1; omega) _, Lib.hid (fun j hj => by
          by_cases hjk : j = k
          · rw [hjk]; exact HK.out
          · exact HOk.out j (by omega))⟩
        case measure => simp [intOf]; omega
      · have hok' : (Dt.part ws k).2 = false := by simpa using hok
        rw [hok'] at hW
        have HR := Lib.hid (HB.out k hlt hok')
        clear hok hok'
        go_wp2_with fail
        refine hW.mono ?_
        rintro e w3 ⟨rfl, hb3⟩
        have hbr3 : Below w.heap.size w w3 := hb1.trans ((hbr.trans (hb3.mono hbr.size)).mono hb1.size)
        clear hW hc hrd hbr hb3
        go_wp2_with fail
        go_ret2
        exact ⟨by rw [HR.out]; rfl, hbr3⟩
    · obtain rfl : k = 6 := by omega
      have HR := Lib.hid (HY.out HOk.out)
      have c0 := hrd.cell 0 (by omega)
      have c1 := hrd.cell 1 (by omega)
      have c2 := hrd.cell 2 (by omega)
      have c3 := hrd.cell 3 (by omega)
      have c4 := hrd.cell 4 (by omega)
      have c5 := hrd.cell 5 (by omega)
      obtain ⟨m, hm, hm12⟩ := part_month ws
      rw [hm] at c1
      obtain ⟨y0, y1⟩ := part_bd ws 0
      obtain ⟨d0, d1⟩ := part_bd ws 2
      obtain ⟨h0, h1⟩ := part_bd ws 3
      obtain ⟨i0, i1⟩ := part_bd ws 4
      obtain ⟨s0, s1⟩ := part_bd ws 5
      have hM := moment_c (Dt.part ws 0).1 (Dt.part ws 2).1 (Dt.part ws 3).1 (Dt.part ws 4).1 (Dt.part ws 5).1 m wr (HT1.out.later hbr) y0 y1 hm12 d0 d1 h0 h1 i0 i1 s0 s1
      have hmb := mom_bd (Dt.part ws 0).1 (Dt.part ws 2).1 (Dt.part ws 3).1 (Dt.part ws 4).1 (Dt.part ws 5).1 m hm12 y0 y1 d0 d1 h0 h1 i0 i1 s0 s1
      have hme : Dt.mom (Dt.part ws 0).1 m (Dt.part ws 2).1 (Dt.part ws 3).1 (Dt.part ws 4).1 (Dt.part ws 5).1 = Dt.momW ws := by unfold Dt.momW; rw [hm]
      rw [hme] at hM hmb
      obtain ⟨m0, m1⟩ := hmb
      generalize Dt.momW ws = v at hM m0 m1 HR
      clear hrd hm hme y0 y1 d0 d1 h0 h1 i0 i1 s0 s1
      generalize (Dt.part ws 0).1 = q0 at c0 hM
      generalize (Dt.part ws 2).1 = q2 at c2 hM
      generalize (Dt.part ws 3).1 = q3 at c3 hM
      generalize (Dt.part ws 4).1 = q4 at c4 hM
      generalize (Dt.part ws 5).1 = q5 at c5 hM
      have hbr0 : Below w.heap.size w wr := hb1.trans (hbr.mono hb1.size)
      by_cases g0 : 0 ≤ v
      · by_cases g1 : v ≤ 253402300799
        · go_wp2_with fail
          refine hM.mono ?_
          rintro e w3 ⟨rfl, hb3⟩
          clear hM
          go_wp2_with fail
          go_ret2
          exact ⟨by rw [HR.out]; unfold Dt.last; simp [g0, g1], hbr0.trans (hb3.mono hbr0.size)⟩
        · have g1' : decide (v ≤ 253402300799) = false := decide_eq_false g1
          go_wp2_with fail
          refine hM.mono ?_
          rintro e w3 ⟨rfl, hb3⟩
          clear hM
          go_wp2_with fail
          go_ret2
          exact ⟨by rw [HR.out]; unfold Dt.last; simp [g0, g1], hbr0.trans (hb3.mono hbr0.size)⟩
      · have g0' : decide (0 ≤ v) = false := decide_eq_false g0
        go_wp2_with fail
        refine hM.mono ?_
        rintro e w3 ⟨rfl, hb3⟩
        clear hM
        go_wp2_with fail
        go_ret2
        exact ⟨by rw [HR.out, g0']; rfl, hbr0.trans (hb3.mono hbr0.size)⟩

set_option maxHeartbeats 800000 in
theorem read_no (s : ByteArray) (w : World) (hs : s.size ≤ 33) (h8 : ¬ (Lib.goFieldsP Dt.sepR s).length = 8) (h7 : ¬ (Lib.goFieldsP Dt.sepR s).length = 7) :
    Calls Tryd.prog 16 #[.string s] w fun e w' => e = .returned (.tuple #[.int .i64 (Dt.readW (Dt.fields s)).1, .bool (Dt.readW (Dt.fields s)).2]) ∧ Below w.heap.size w w' := by
  have hF := (fields_c s w (by omega)).mono (fun e w' ⟨A, h1, _, h3⟩ => (⟨A, h1, h3⟩ : ∃ A, e = Ending.returned (Value.slice (some ⟨A, 0, none⟩) (Lib.goFieldsP Dt.sepR s).length (Lib.goFieldsP Dt.sepR s).length) ∧ Below w.heap.size w w'))
  have HR := Lib.hid (readW_no s h8 h7)
  have hs' : ¬ (33 : Int) < (s.size : Int) := by omega
  generalize (Lib.goFieldsP Dt.sepR s).length = n at hF h8 h7
  have g8 : ((n : Int) == 8) = false := beq_eq_false_iff_ne.2 (by omega)
  have g7 : ((n : Int) == 7) = false := beq_eq_false_iff_ne.2 (by omega)
  clear h8 h7 hs
  go_enter Tryd.func16, Tryd.ntmps16
  go_wp2_with fail
  refine hF.mono ?_
  rintro e w1 ⟨A, rfl, hb1⟩
  clear hF
  go_wp2_with fail
  go_ret2
  exact ⟨by rw [HR.out]; rfl, hb1.alloc hb1.size _⟩

set_option maxHeartbeats 800000 in
theorem read_long (s : ByteArray) (w : World) (hs : (33 : Int) < (s.size : Int)) :
    Calls Tryd.prog 16 #[.string s] w fun e w' => e = .returned (.tuple #[.int .i64 0, .bool false]) ∧ w = w' := by
  go_enter Tryd.func16, Tryd.ntmps16
  go_wp2_with fail
  go_ret2
  exact ⟨rfl, rfl⟩
theorem read_c (s : ByteArray) (w : World) (hT : DTabs w) (hs : s.size ≤ 33) :
    Calls Tryd.prog 16 #[.string s] w fun e w' => e = .returned (.tuple #[.int .i64 (Dt.readW (Dt.fields s)).1, .bool (Dt.readW (Dt.fields s)).2]) ∧ Below w.heap.size w w' := by
  by_cases h8 : (Lib.goFieldsP Dt.sepR s).length = 8
  · exact read_8 s w hT hs h8
  · by_cases h7 : (Lib.goFieldsP Dt.sepR s).length = 7
    · exact read_7 s w hT hs h7
    · exact read_no s w hs h8 h7

end Go.Proofs.YtlmcolpoaedclaaDoor
