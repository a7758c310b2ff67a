/- Lists of texts in memory: as an argument, as a row that the call makes itself, held against each other. -/
import Derived.Test.YtljpidpddlgkpaaDoorOctB
import Derived.Test.YtljpidpddlgkpaaDoorOctMathD
import Derived.BigQuiet
import Derived.Deep.QuietTactic
namespace Go.Proofs.YtljpidpddlgkpaaDoor
open Go.RowKit

def strCells (ls : List (List UInt8)) : List Value := ls.map fun l => Value.string (str l)
theorem strCells_length (ls : List (List UInt8)) : (strCells ls).length = ls.length := by simp [strCells]
theorem strCells_snoc (ls : List (List UInt8)) (l : List UInt8) : strCells (ls ++ [l]) = strCells ls ++ [.string (str l)] := by simp [strCells]
theorem strs_info : (Tryd.prog.info? 9).map (fun i => (i.zero, i.size, i.bytes)) = some (some (.string ⟨#[]⟩), 1, 16) := by kernel_rfl

/-- v reads as the texts ls. -/
def SIn (w : World) (v : Value) (ls : List (List UInt8)) : Prop := ∃ ao cap, v = .slice ao ls.length cap ∧ (ls = [] ∨ ∃ b o, ao = some ⟨b, o, none⟩ ∧ b < w.heap.size ∧ ∀ j (hj : j < ls.length), w.cell? ⟨b, o + j, none⟩ = some (.string (str ls[j])))
theorem SIn.later {w w' : World} {v : Value} {ls : List (List UInt8)} (h : SIn w v ls) (hb : Below w.heap.size w w') : SIn w' v ls := by
  obtain ⟨ao, cap, hv, h⟩ := h
  refine ⟨ao, cap, hv, ?_⟩
  rcases h with h | ⟨b, o, h1, h2, h3⟩
  · exact .inl h
  · exact .inr ⟨b, o, h1, Nat.lt_of_lt_of_le h2 hb.size, fun j hj => by rw [hb.cell (p := ⟨b, o + j, none⟩) h2]; exact h3 j hj⟩
theorem SIn.of_row {w : World} {base : Nat} {v : Value} {ls : List (List UInt8)} (h : w.ownsRow base 9 1 v ls.length (strCells ls)) : SIn w v ls := by
  rcases h.2 with ⟨hv, h0⟩ | ⟨g, cap, cur, hv, hg, hh, h1, h2, h3, h4⟩
  · exact ⟨none, 0, by rw [hv, h0], .inl (List.eq_nil_of_length_eq_zero h0)⟩
  · refine ⟨some ⟨g, 0, none⟩, cap, hv, .inr ⟨g, 0, rfl, lt_of_block hh, fun j hj => ?_⟩⟩
    have h5 : cur.toList[j]? = some (.string (str ls[j])) := by
      have h6 : (cur.toList.take (ls.length * 1))[j]? = (strCells ls)[j]? := by rw [h4]
      rw [List.getElem?_take_of_lt (by omega)] at h6
      rw [h6]; simp [strCells, hj]
    simp only [World.cell?, hh]
    simpa using h5

def sameL (xs ys : List (List UInt8)) : Bool := decide (xs = ys)
theorem sameL_self (xs : List (List UInt8)) : sameL xs xs = true := by simp [sameL]
theorem sameL_len {xs ys : List (List UInt8)} (h : ¬ xs.length = ys.length) : false = sameL xs ys := by
  unfold sameL; rw [decide_eq_false]; intro e; rw [e] at h; exact h rfl
theorem sameL_at {xs ys : List (List UInt8)} {k : Nat} (h1 : k < xs.length) (h2 : k < ys.length) (h : ¬ xs[k] = ys[k]) : false = sameL xs ys := by
  unfold sameL; rw [decide_eq_false]; intro e; subst e; exact h rfl
theorem same_step {xs ys : List (List UInt8)} {k : Nat} (h1 : k < xs.length) (h2 : k < ys.length) (h : xs.take k = ys.take k) (he : xs[k] = ys[k]) : xs.take (k + 1) = ys.take (k + 1) := by
  rw [List.take_succ_eq_append_getElem h1, List.take_succ_eq_append_getElem h2, h, he]
theorem same_all {xs ys : List (List UInt8)} {k : Nat} (hk : xs.length ≤ k) (h1 : xs.length = ys.length) (h : xs.take k = ys.take k) : true = sameL xs ys := by
  rw [List.take_of_length_le hk, List.take_of_length_le (by omega)] at h
  unfold sameL; rw [decide_eq_true h]

theorem ret_bool' {a b : Bool} (h : a = b) : Ending.returned (.bool a) = .returned (.bool b) := by rw [h]

set_option maxHeartbeats 800000 in
set_option maxRecDepth 100000 in
theorem Same_w (va vb : Value) (xs ys : List (List UInt8)) (w : World) (ha : SIn w va xs) (hb : SIn w vb ys) (hla : xs.length ≤ 100000000000) (_hlb : ys.length ≤ 100000000000) :
    Calls Tryd.prog 22 #[va, vb] w fun e w' => e = .returned (.bool (sameL xs ys)) ∧ ∃ m, w' = w.drewN m := by
  obtain ⟨aa, ca, rfl, ha⟩ := ha
  obtain ⟨ab, cb, rfl, hb⟩ := hb
  by_cases hl : xs.length = ys.length
  case neg =>
    have HR := Lib.hid (sameL_len hl)
    have b1 : ((xs.length : Int) != (ys.length : Int)) = true := by rw [bne, beq_eq_false_iff_ne.2 (by omega)]; rfl
    clear hl ha hb
    go_enter Tryd.func22, Tryd.ntmps22
    go_wp2_with fail
    go_ret
    exact ⟨ret_bool' HR.out, 0, rfl⟩
  have HL := Lib.hid hl
  have b1 : ((xs.length : Int) != (ys.length : Int)) = false := by rw [hl, bne, beq_self_eq_true]; rfl
  obtain ⟨n, hn⟩ : ∃ n, n = xs.length := ⟨_, rfl⟩
  have hn2 := hn.trans hl
  rw [← hn, ← hn2] at b1 ⊢
  rw [← hn] at hla
  clear _hlb hl
  have HN := Lib.hid hn
  have HM := Lib.hid hn2
  by_cases h0 : n = 0
  · subst h0
    have HR : Hid (true = sameL xs ys) := same_all (k := 0) (by rw [← HN.out]; exact Nat.le_refl 0) HL.out rfl
    clear hn hn2 ha hb b1 hla
    go_enter Tryd.func22, Tryd.ntmps22
    go_wp2_with fail
    refine wp_loop_rounds 1 ?_
    rw [rounds_succ]
    go_wp2_with fail
    go_ret
    exact ⟨ret_bool' HR.out, 0, rfl⟩
  obtain ⟨ba, oa, rfl, _, hca⟩ := ha.resolve_left (fun e => h0 (by rw [hn, e]; rfl))
  obtain ⟨bb, ob, rfl, _, hcb⟩ := hb.resolve_left (fun e => h0 (by rw [hn2, e]; rfl))
  have HCA : Hid (∀ j (hj : j < n), w.cell? ⟨ba, oa + j, none⟩ = some (.string (str (xs[j]'(HN.out ▸ hj))))) := fun j hj => hca j (by omega)
  have HCB : Hid (∀ j (hj : j < n), w.cell? ⟨bb, ob + j, none⟩ = some (.string (str (ys[j]'(HM.out ▸ hj))))) := fun j hj => hcb j (by omega)
  clear ha hb hca hcb hn hn2 h0
  go_enter Tryd.func22, Tryd.ntmps22
  go_wp2_with fail
  go_loopw [5] (fun i wr => ∃ k m : Nat, k ≤ n ∧ i = .int .i64 k ∧ wr = w.drewN m ∧ Hid (xs.take k = ys.take k)) (fun i _ => n - (intOf i).toNat)
  case atStart => exact ⟨0, 0, by omega, rfl, rfl, Lib.hid rfl⟩
  case round =>
    obtain ⟨k, m, hk, rfl, rfl, HT⟩ := hrel
    by_cases hlt : k < n
    · have ka : k < xs.length := by have := HN.out; omega
      have kb : k < ys.length := by have := HM.out; omega
      have c1 := HCA.out k hlt
      have c2 := HCB.out k hlt
      by_cases he : xs[k] = ys[k]
      · have HS := Lib.hid (same_step ka kb HT.out he)
        rw [← he] at c2
        generalize str xs[k] = x at c1 c2
        clear he
        go_wp2_with fail
        go_quiet (fail)
        go_wp2_with fail
        go_roundw
        case rel => exact ⟨k + 1, _, by omega, by go_num, rfl, HS⟩
        case measure => simp [intOf]; omega
      · have HR := Lib.hid (sameL_at ka kb he)
        have hx : ((str xs[k]).toList == (str ys[k]).toList) = false := by
          rw [str_toList, str_toList, beq_eq_false_iff_ne.2 he]
        generalize str xs[k] = x at c1 hx
        generalize str ys[k] = y at c2 hx
        clear he
        go_wp2_with fail
        go_quiet (fail)
        go_wp2_with fail
        go_ret
        exact ⟨ret_bool' HR.out, _, World.drewN_drewN w m nq⟩
    · have HR : Hid (true = sameL xs ys) := same_all (by have := HN.out; omega) HL.out HT.out
      go_wp2_with fail
      go_ret
      exact ⟨ret_bool' HR.out, _, rfl⟩

end Go.Proofs.YtljpidpddlgkpaaDoor
