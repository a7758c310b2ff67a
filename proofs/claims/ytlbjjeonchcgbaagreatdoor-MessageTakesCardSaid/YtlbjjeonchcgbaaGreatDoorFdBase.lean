/- What lies below, out of the texts of the layers under this one: Fd1, Fd12, Fd13, Fd14, Fd15, Fd2, Fd3, Fd4, Fd5, Fd6, Fd7, FdMath, FdMathB, FdMathC, FdMathD, FdMathE, FdMathG. -/
import Derived.Lib.Bytes
import Derived.Test.YtlbjjeonchcgbaaGreatDoorFdMath
import Derived.Test.YtlbjjeonchcgbaaGreatDoorOctBase
import Derived.Test.YtlbjjeonchcgbaaGreatDoorQuiet
import Derived.Deep.RegionWith
import Derived.BigQuiet
import Derived.Deep.QuietTactic
import Derived.Lib.AppendStr
import Derived.Maps.OwnSet
import Derived.Maps.AppendAt
import Derived.StringKeys
import Derived.Test.YtlbjjeonchcgbaaGreatDoorShelf
import Derived.Deep.DeepCutAuto
import Derived.Lib.SlBytesConst
import Derived.LoopTactic
namespace Go.Proofs.YtlbjjeonchcgbaaGreatDoor
open Go.RowKit

/-- A field as a value. -/
def fval (f : Fld.F) : Value := .agg #[.string (str f.1), .string (str f.2)]
def fieldCells (fs : List Fld.F) : List Value := fs.flatMap fun f => [Value.string (str f.1), .string (str f.2)]
theorem fieldCells_length (fs : List Fld.F) : (fieldCells fs).length = fs.length * 2 := by
  unfold fieldCells; induction fs with
  | nil => rfl
  | cons f r ih => rw [List.flatMap_cons, List.length_append, ih]; simp; omega
theorem fieldCells_append (a b : List Fld.F) : fieldCells (a ++ b) = fieldCells a ++ fieldCells b := by unfold fieldCells; rw [List.flatMap_append]
theorem fieldCells_one (f : Fld.F) : fieldCells [f] = [Value.string (str f.1), .string (str f.2)] := rfl
theorem fieldCells_at (fs : List Fld.F) (j : Nat) (h : j < fs.length) : (fieldCells fs)[j * 2]? = some (.string (str fs[j].1)) ∧ (fieldCells fs)[j * 2 + 1]? = some (.string (str fs[j].2)) := by
  induction fs generalizing j with
  | nil => simp at h
  | cons f r ih =>
    match j with
    | 0 => exact ⟨rfl, rfl⟩
    | j + 1 =>
      have := ih j (by simpa using h)
      have e1 : (j + 1) * 2 = j * 2 + 2 := by omega
      have e2 : (j + 1) * 2 + 1 = j * 2 + 1 + 2 := by omega
      rw [e2, e1]
      exact this
theorem fields_info : (Tryz.prog.info? 65).map (fun i => (i.zero, i.size, i.bytes)) = some (some (.agg #[.string ⟨#[]⟩, .string ⟨#[]⟩]), 2, 32) := by kernel_rfl

/-- v reads as the fields fs. -/
def FIn (w : World) (v : Value) (fs : List Fld.F) : Prop := ∃ ao cap, v = .slice ao fs.length cap ∧ (fs = [] ∨ ∃ b o, ao = some ⟨b, o, none⟩ ∧ b < w.heap.size ∧ ∀ j (hj : j < fs.length), w.cell? ⟨b, o + j * 2, none⟩ = some (.string (str fs[j].1)) ∧ w.cell? ⟨b, o + j * 2 + 1, none⟩ = some (.string (str fs[j].2)))
theorem FIn.later {w w' : World} {v : Value} {fs : List Fld.F} (h : FIn w v fs) (hb : Below w.heap.size w w') : FIn w' v fs := by
  obtain ⟨ao, cap, hv, h⟩ := h
  refine ⟨ao, cap, hv, ?_⟩
  rcases h with h | ⟨b, o, h1, h2, h3⟩
  · exact .inl h
  · exact .inr ⟨b, o, h1, Nat.lt_of_lt_of_le h2 hb.size, fun j hj => ⟨by rw [hb.cell (p := ⟨b, o + j * 2, none⟩) h2]; exact (h3 j hj).1, by rw [hb.cell (p := ⟨b, o + j * 2 + 1, none⟩) h2]; exact (h3 j hj).2⟩⟩
theorem FIn.of_row {w : World} {base : Nat} {v : Value} {fs : List Fld.F} (h : w.ownsRow base 65 2 v fs.length (fieldCells fs)) : FIn w v fs := by
  rcases h.2 with ⟨hv, h0⟩ | ⟨g, cap, cur, hv, hg, hh, h1, h2, h3, h4⟩
  · exact ⟨none, 0, by rw [hv, h0], .inl (List.eq_nil_of_length_eq_zero h0)⟩
  · refine ⟨some ⟨g, 0, none⟩, cap, hv, .inr ⟨g, 0, rfl, lt_of_block hh, fun j hj => ?_⟩⟩
    have h5 : ∀ i, i < fs.length * 2 → cur.toList[i]? = (fieldCells fs)[i]? := fun i hi => by
      have h6 : (cur.toList.take (fs.length * 2))[i]? = (fieldCells fs)[i]? := by rw [h4]
      rw [List.getElem?_take_of_lt hi] at h6
      exact h6
    have h7 := fieldCells_at fs j hj
    constructor
    · have h8 := (h5 (j * 2) (by omega)).trans h7.1
      simp only [World.cell?, hh]
      simpa using h8
    · have h8 := (h5 (j * 2 + 1) (by omega)).trans h7.2
      simp only [World.cell?, hh]
      simpa using h8
theorem FIn.nil {w : World} (cap : Nat) (a : Option Addr) : FIn w (.slice a 0 cap) [] := ⟨a, cap, rfl, .inl rfl⟩

/-- v is a slice of the call's own, and holds the fields fs. -/
def FBuf (W w : World) (v : Value) (fs : List Fld.F) : Prop := w.ownsRow W.heap.size 65 2 v fs.length (fieldCells fs) ∧ Below W.heap.size W w
theorem FBuf.nil (W : World) : FBuf W W (.slice none 0 0) [] := ⟨World.ownsRow_nil _ _ _ _, Below.refl _ _⟩
theorem FBuf.nil_of {W w : World} (h : Below W.heap.size W w) : FBuf W w (.slice none 0 0) [] := ⟨World.ownsRow_nil _ _ _ _, h⟩
theorem row_after {w w' : World} {base e s n : Nat} {v : Value} {xs : List Value} (h : w.ownsRow base e s v n xs) (hb : ∀ (g : Nat) (cur : Array Value), w.heap[g]? = some (Obj.cells cur e (0, 0)) → w'.heap[g]? = some (Obj.cells cur e (0, 0))) : w'.ownsRow base e s v n xs := by
  refine ⟨h.1, ?_⟩
  rcases h.2 with h0 | ⟨g, cap, cur, hv, hg, hh, rest⟩
  · exact .inl h0
  · exact .inr ⟨g, cap, cur, hv, hg, hb g cur hh, rest⟩
theorem row_below {w w' : World} {base e s n : Nat} {v : Value} {xs : List Value} (h : w.ownsRow base e s v n xs) (hb : Below w.heap.size w w') : w'.ownsRow base e s v n xs :=
  row_after h (fun g cur hg => by rw [hb.block g (lt_of_block hg)]; exact hg)
theorem FBuf.after {W w w' : World} {v : Value} {fs : List Fld.F} (h : FBuf W w v fs) (hb : Below w.heap.size w w') : FBuf W w' v fs := ⟨row_below h.1 hb, h.2.trans (hb.mono h.2.size)⟩
theorem FBuf.fin {W w : World} {v : Value} {fs : List Fld.F} (h : FBuf W w v fs) : FIn w v fs := FIn.of_row h.1

/-- 'append(fs, f)'. -/
theorem appF {ops : Array Oper} {rest : List Oper} {o : Oper} {a : Act} {Q : Exit → Act → World → Prop} {W w : World} {v : Value} {fs : List Fld.F} (h : FBuf W w v fs) (f : Fld.F) (hlen : fs.length ≤ 1000000000)
    (hgd : o.guard = none) (s x : Operand) (ho : o.op = .call { callee := .builtin .append, args := #[s, x], argTypes := #[26, 26] })
    (s0 s1 : ByteArray) (h0 : s0 = str f.1) (h1 : s1 = str f.2) (hs : a.eval s = v) (hx : a.eval x = .slice (some ⟨w.heap.size, 0, none⟩) 1 1)
    (hK : ∀ v' w', FBuf W w' v' (fs ++ [f]) → wpList Tryz.prog ops Q rest (a.put o.dst v') w') : wpList Tryz.prog ops Q (o :: rest) a (w.alloc (.cells #[.string s0, .string s1] 65)) := by
  subst h0 h1
  obtain ⟨i0, hi, hz0, hz1, hz2⟩ := info_parts fields_info
  have hA := h.after ((Below.refl _ w).alloc (Nat.le_refl _) (.cells #[.string (str f.1), .string (str f.2)] 65))
  refine wpList_append_own _ hgd s x _ ho W.heap.size 65 i0 _ 2 32 Tryz.underlying26 hi hz0 hz1 hz2 rfl (by decide) v fs.length (fieldCells fs) hs hA.1 ⟨w.heap.size, 0, none⟩ 1 1 (fieldCells [f]) hx rfl ?_ ?_ (by unfold maxLen; omega) (by omega) hA.2.size (fun v' w' h1 h2 _ => ?_)
  · intro j u hj
    match j, hj with
    | 0, hj =>
      simp [fieldCells] at hj; subst hj
      show (w.alloc (.cells #[.string (str f.1), .string (str f.2)] 65)).cell? ⟨w.heap.size, 0 + 0, none⟩ = _
      rw [World.cell?_alloc_at _ _ _ _ rfl]; rfl
    | 1, hj =>
      simp [fieldCells] at hj; subst hj
      show (w.alloc (.cells #[.string (str f.1), .string (str f.2)] 65)).cell? ⟨w.heap.size, 0 + 1, none⟩ = _
      rw [World.cell?_alloc_at _ _ _ _ rfl]; rfl
    | j + 2, hj => simp [fieldCells] at hj
  · intro u hu; simp [fieldCells] at hu; rcases hu with rfl | rfl <;> rfl
  · refine hK v' w' ⟨?_, hA.2.grown h2 hA.2.size (fun k hk => (hA.1.lt k hk).1)⟩
    rw [fieldCells_append, List.length_append]; exact h1

set_option maxHeartbeats 400000 in
theorem right_s (f : Fld.F) (w : World) (h0 : f.1.length ≤ 1000000) (h1 : f.2.length ≤ 1000000) :
    Calls Tryz.prog 86 #[fval f] w fun e w' => e = .returned (.bool (Fld.right f)) ∧ Below w.heap.size w w' := by
  obtain ⟨n, v⟩ := f
  have z0 : (str n).size ≤ 1000000 := by rw [str_size]; exact h0
  have z1 : (str v).size ≤ 1000000 := by rw [str_size]; exact h1
  have cT := Token_s (str n) (w.alloc (.cells #[.string (str n), .string (str v)] 65)) z0
  rw [str_list] at cT
  have cV := Value_s (str v) (w.alloc (.cells #[.string (str n), .string (str v)] 65)) z1
  rw [str_list] at cV
  have hb : Below w.heap.size w (w.alloc (.cells #[.string (str n), .string (str v)] 65)) := (Below.refl _ w).alloc (Nat.le_refl _) _
  unfold fval
  generalize str n = sn at *
  generalize str v = sv at *
  obtain ⟨tb, ht⟩ : ∃ tb, tb = Oct.token n := ⟨_, rfl⟩
  obtain ⟨vb, hv⟩ : ∃ vb, vb = Oct.value v := ⟨_, rfl⟩
  rw [← ht] at cT
  rw [← hv] at cV
  have HR : Hid (Fld.right (n, v) = (tb && vb)) := Lib.hid (by rw [ht, hv]; rfl)
  clear ht hv h0 h1 z0 z1
  cases tb with
  | true =>
    go_enter Tryz.func86, Tryz.ntmps86
    go_wp2_with (first | (go_at_call 87; refine cT.mono ?_; rintro e w1 ⟨rfl, rfl⟩) | (go_at_call 89; refine cV.mono ?_; rintro e w2 ⟨rfl, hb2⟩))
    go_ret
    exact ⟨ret_bool (by rw [HR.out]; simp), hb.trans (hb2.mono hb.size)⟩
  | false =>
    go_enter Tryz.func86, Tryz.ntmps86
    go_wp2_with (first | (go_at_call 87; refine cT.mono ?_; rintro e w1 ⟨rfl, rfl⟩) | (go_at_call 89; refine cV.mono ?_; rintro e w2 ⟨rfl, hb2⟩))
    go_ret
    exact ⟨ret_bool (by rw [HR.out]; simp), hb⟩

set_option maxHeartbeats 400000 in
theorem fits_s (f : Fld.F) (w : World) (h0 : f.1.length ≤ 1000000) (h1 : f.2.length ≤ 1000000) :
    Calls Tryz.prog 57 #[fval f] w fun e w' => e = .returned (.bool (Fld.right f)) ∧ Below w.heap.size w w' := by
  obtain ⟨n, v⟩ := f
  have z0 : (str n).size ≤ 1000000 := by rw [str_size]; exact h0
  have z1 : (str v).size ≤ 1000000 := by rw [str_size]; exact h1
  have cT := rToken_s (str n) (w.alloc (.cells #[.string (str n), .string (str v)] 65)) z0
  rw [str_list] at cT
  have cV := fun w => rValue_s (str v) w z1
  rw [str_list] at cV
  have hb : Below w.heap.size w (w.alloc (.cells #[.string (str n), .string (str v)] 65)) := (Below.refl _ w).alloc (Nat.le_refl _) _
  have hc1 : (w.alloc (.cells #[.string (str n), .string (str v)] 65)).cell? ⟨w.heap.size, 1, none⟩ = some (.string (str v)) := by
    rw [World.cell?_alloc_at _ _ _ _ rfl]; rfl
  unfold fval
  generalize str n = sn at *
  generalize str v = sv at *
  obtain ⟨tb, ht⟩ : ∃ tb, tb = Oct.token n := ⟨_, rfl⟩
  obtain ⟨vb, hv⟩ : ∃ vb, vb = Oct.value v := ⟨_, rfl⟩
  rw [← ht] at cT
  rw [← hv] at cV
  have HR : Hid (Fld.right (n, v) = (tb && vb)) := Lib.hid (by rw [ht, hv]; rfl)
  clear ht hv h0 h1 z0 z1
  have hl : w.heap.size < (w.alloc (.cells #[.string sn, .string sv] 65)).heap.size := by simp
  cases tb with
  | true =>
    go_enter Tryz.func57, Tryz.ntmps57
    go_wp2_with fail
    refine cT.mono ?_
    rintro e w1 ⟨rfl, hb1⟩
    have hc2 := (hb1.cell (p := ⟨w.heap.size, 1, none⟩) hl).trans hc1
    go_wp2_with (go_at_call 52; refine (cV _).mono ?_; rintro e w2 ⟨rfl, rfl⟩)
    go_ret
    exact ⟨ret_bool (by rw [HR.out]; simp), hb.trans (hb1.mono hb.size)⟩
  | false =>
    go_enter Tryz.func57, Tryz.ntmps57
    go_wp2_with fail
    refine cT.mono ?_
    rintro e w1 ⟨rfl, hb1⟩
    go_wp2_with fail
    go_ret
    exact ⟨ret_bool (by rw [HR.out]; simp), hb.trans (hb1.mono hb.size)⟩
end Go.Proofs.YtlbjjeonchcgbaaGreatDoor

namespace Go.Proofs.YtlbjjeonchcgbaaGreatDoor
open Go.RowKit

theorem bdrewN (w : World) (n : Nat) : Below w.heap.size w (w.drewN n) := ⟨rfl, rfl, rfl, Nat.le_refl _, fun _ _ => rfl⟩
theorem bdrew2 (w : World) (m n : Nat) : Below w.heap.size w ((w.drewN m).drewN n) := ⟨rfl, rfl, rfl, Nat.le_refl _, fun _ _ => rfl⟩

def sameF (xs ys : List Fld.F) : Bool := decide (xs = ys)
theorem sameF_self (xs : List Fld.F) : sameF xs xs = true := by simp [sameF]
theorem sameF_len {xs ys : List Fld.F} (h : ¬ xs.length = ys.length) : false = sameF xs ys := by
  unfold sameF; rw [decide_eq_false]; intro e; rw [e] at h; exact h rfl
theorem sameF_at {xs ys : List Fld.F} {k : Nat} (h1 : k < xs.length) (h2 : k < ys.length) (h : ¬ xs[k] = ys[k]) : false = sameF xs ys := by
  unfold sameF; rw [decide_eq_false]; intro e; subst e; exact h rfl
theorem sameF_step {xs ys : List Fld.F} {k : Nat} (h1 : k < xs.length) (h2 : k < ys.length) (h : xs.take k = ys.take k) (he : xs[k] = ys[k]) : xs.take (k + 1) = ys.take (k + 1) := by
  rw [List.take_succ_eq_append_getElem h1, List.take_succ_eq_append_getElem h2, h, he]
theorem sameF_all {xs ys : List Fld.F} {k : Nat} (hk : xs.length ≤ k) (h1 : xs.length = ys.length) (h : xs.take k = ys.take k) : true = sameF xs ys := by
  rw [List.take_of_length_le hk, List.take_of_length_le (by omega)] at h
  unfold sameF; rw [decide_eq_true h]

set_option maxHeartbeats 800000 in
set_option maxRecDepth 100000 in
theorem SameF_w (va vb : Value) (xs ys : List Fld.F) (w : World) (ha : FIn w va xs) (hb : FIn w vb ys) (hla : xs.length ≤ 1000000000) :
    Calls Tryz.prog 29 #[va, vb] w fun e w' => e = .returned (.bool (sameF xs ys)) ∧ Below w.heap.size w w' := by
  obtain ⟨aa, ca, rfl, ha⟩ := ha
  obtain ⟨ab, cb, rfl, hb⟩ := hb
  by_cases hl : xs.length = ys.length
  case neg =>
    have HR := Lib.hid (sameF_len hl)
    have b1 : ((xs.length : Int) != (ys.length : Int)) = true := by rw [bne, beq_eq_false_iff_ne.2 (by omega)]; rfl
    clear hl ha hb
    go_enter Tryz.func29, Tryz.ntmps29
    go_wp2_with fail
    go_ret
    exact ⟨ret_bool' HR.out, Below.refl _ _⟩
  have HL := Lib.hid hl
  have b1 : ((xs.length : Int) != (ys.length : Int)) = false := by rw [hl, bne, beq_self_eq_true]; rfl
  obtain ⟨n, hn⟩ : ∃ n, n = xs.length := ⟨_, rfl⟩
  have hn2 := hn.trans hl
  rw [← hn, ← hn2] at b1 ⊢
  rw [← hn] at hla
  clear hl
  have HN := Lib.hid hn
  have HM := Lib.hid hn2
  by_cases h0 : n = 0
  · subst h0
    have HR : Hid (true = sameF xs ys) := sameF_all (k := 0) (by rw [← HN.out]; exact Nat.le_refl 0) HL.out rfl
    clear hn hn2 ha hb b1 hla
    go_enter Tryz.func29, Tryz.ntmps29
    go_wp2_with fail
    refine wp_loop_rounds 1 ?_
    rw [rounds_succ]
    go_wp2_with fail
    go_ret
    exact ⟨ret_bool' HR.out, Below.refl _ _⟩
  obtain ⟨ba, oa, rfl, _, hca⟩ := ha.resolve_left (fun e => h0 (by rw [hn, e]; rfl))
  obtain ⟨bb, ob, rfl, _, hcb⟩ := hb.resolve_left (fun e => h0 (by rw [hn2, e]; rfl))
  have HCA : Hid (∀ j (hj : j < n), w.cell? ⟨ba, oa + j * 2, none⟩ = some (.string (str (xs[j]'(HN.out ▸ hj)).1)) ∧ w.cell? ⟨ba, oa + j * 2 + 1, none⟩ = some (.string (str (xs[j]'(HN.out ▸ hj)).2))) := fun j hj => hca j (by omega)
  have HCB : Hid (∀ j (hj : j < n), w.cell? ⟨bb, ob + j * 2, none⟩ = some (.string (str (ys[j]'(HM.out ▸ hj)).1)) ∧ w.cell? ⟨bb, ob + j * 2 + 1, none⟩ = some (.string (str (ys[j]'(HM.out ▸ hj)).2))) := fun j hj => hcb j (by omega)
  clear ha hb hca hcb hn hn2 h0
  go_enter Tryz.func29, Tryz.ntmps29
  go_wp2_with fail
  go_loopw [5] (fun i wr => ∃ k m : Nat, k ≤ n ∧ i = .int .i64 k ∧ wr = w.drewN m ∧ Hid (xs.take k = ys.take k)) (fun i _ => n - (intOf i).toNat)
  case atStart => exact ⟨0, 0, by omega, rfl, rfl, Lib.hid rfl⟩
  case round =>
    obtain ⟨k, m, hk, rfl, rfl, HT⟩ := hrel
    by_cases hlt : k < n
    · have ka : k < xs.length := by have := HN.out; omega
      have kb : k < ys.length := by have := HM.out; omega
      obtain ⟨c1, c1'⟩ := HCA.out k hlt
      obtain ⟨c2, c2'⟩ := HCB.out k hlt
      by_cases he : xs[k] = ys[k]
      · have HS := Lib.hid (sameF_step ka kb HT.out he)
        rw [← he] at c2 c2'
        generalize str xs[k].1 = x at c1 c2
        generalize str xs[k].2 = x' at c1' c2'
        clear he
        go_wp2_with fail
        go_quiet (fail)
        go_wp2_with fail
        go_roundw
        case rel => exact ⟨k + 1, _, by omega, by go_num, rfl, HS⟩
        case measure => simp [intOf]; omega
      · have HR := Lib.hid (sameF_at ka kb he)
        by_cases hn1 : xs[k].1 = ys[k].1
        · have hx : ((str xs[k].2).toList == (str ys[k].2).toList) = false := by
            rw [str_toList, str_toList, beq_eq_false_iff_ne.2 (fun e => he (Prod.ext hn1 e))]
          rw [← hn1] at c2
          generalize str xs[k].1 = x at c1 c2
          generalize str xs[k].2 = x' at c1' hx
          generalize str ys[k].2 = y' at c2' hx
          clear he hn1
          go_wp2_with fail
          go_quiet (fail)
          go_wp2_with fail
          go_ret
          exact ⟨ret_bool' HR.out, bdrew2 _ _ _⟩
        · have hx : ((str xs[k].1).toList == (str ys[k].1).toList) = false := by
            rw [str_toList, str_toList, beq_eq_false_iff_ne.2 hn1]
          generalize str xs[k].1 = x at c1 hx
          generalize str ys[k].1 = y at c2 hx
          generalize str xs[k].2 = x' at c1'
          generalize str ys[k].2 = y' at c2'
          clear he hn1
          go_wp2_with fail
          go_quiet (fail)
          go_wp2_with fail
          go_ret
          exact ⟨ret_bool' HR.out, bdrew2 _ _ _⟩
    · have HR : Hid (true = sameF xs ys) := sameF_all (by have := HN.out; omega) HL.out HT.out
      go_wp2_with fail
      go_ret
      exact ⟨ret_bool' HR.out, bdrewN _ _⟩

/-- Few fields, none of them long. -/
def shortF (fs : List Fld.F) (most : Nat) : Bool := decide (fs.length ≤ most) && fs.all fun f => decide (f.1.length ≤ 500) && decide (f.2.length ≤ 2000)
theorem shortF_spec {fs : List Fld.F} {most : Nat} (h : shortF fs most = true) : fs.length ≤ most ∧ ∀ f ∈ fs, f.1.length ≤ 500 ∧ f.2.length ≤ 2000 := by
  unfold shortF at h
  simp only [Bool.and_eq_true, decide_eq_true_eq, List.all_eq_true] at h
  exact h
theorem shortF_many {fs : List Fld.F} {most : Nat} (h : most < fs.length) : false = shortF fs most := by
  unfold shortF; rw [decide_eq_false (by omega)]; rfl
theorem shortF_long {fs : List Fld.F} {most : Nat} {k : Nat} (hk : k < fs.length) (h : 500 < fs[k].1.length ∨ 2000 < fs[k].2.length) : false = shortF fs most := by
  have h2 : (fs.all fun f => decide (f.1.length ≤ 500) && decide (f.2.length ≤ 2000)) = false := by
    rw [List.all_eq_false]
    refine ⟨fs[k], List.getElem_mem hk, ?_⟩
    rw [Bool.and_eq_true, decide_eq_true_eq, decide_eq_true_eq]; omega
  unfold shortF; rw [h2, Bool.and_false]
theorem shortF_all {fs : List Fld.F} {most : Nat} (hm : fs.length ≤ most) (h : ∀ j (hj : j < fs.length), fs[j].1.length ≤ 500 ∧ fs[j].2.length ≤ 2000) : true = shortF fs most := by
  have h2 : (fs.all fun f => decide (f.1.length ≤ 500) && decide (f.2.length ≤ 2000)) = true := by
    rw [List.all_eq_true]
    intro f hf
    obtain ⟨j, hj, rfl⟩ := List.getElem_of_mem hf
    rw [decide_eq_true (h j hj).1, decide_eq_true (h j hj).2]; rfl
  unfold shortF; rw [h2, decide_eq_true hm]; rfl

end Go.Proofs.YtlbjjeonchcgbaaGreatDoor

namespace Go.Proofs.YtlbjjeonchcgbaaGreatDoor
open Go.RowKit

/-- Texts that the walks can reckon with. -/
def Small (fs : List Fld.F) : Prop := fs.length ≤ 1000000 ∧ ∀ f ∈ fs, f.1.length ≤ 1000000 ∧ f.2.length ≤ 1000000
theorem Small.at_ {fs : List Fld.F} (h : Small fs) (k : Nat) (hk : k < fs.length) : fs[k].1.length ≤ 1000000 ∧ fs[k].2.length ≤ 1000000 := h.2 _ (List.getElem_mem hk)
theorem Small.size {fs : List Fld.F} (h : Small fs) (k : Nat) : Fld.size (fs.take k) ≤ 2 + 2000004 * k := by
  induction k with
  | zero => exact Nat.le_refl 2
  | succ k ih =>
    by_cases hk : k < fs.length
    · rw [Fld.size_snoc fs k hk]
      have := h.at_ k hk
      unfold Fld.weight; omega
    · rw [List.take_of_length_le (by omega)]; rw [List.take_of_length_le (by omega)] at ih; omega
theorem shortF_small {fs : List Fld.F} {most : Nat} (h : shortF fs most = true) (hm : most ≤ 1000000) : Small fs := by
  obtain ⟨h1, h2⟩ := shortF_spec h
  exact ⟨by omega, fun f hf => by have := h2 f hf; omega⟩
theorem ret_num {k : IntKind} {a b : Int} (h : a = b) : Ending.returned (.int k a) = .returned (.int k b) := by rw [h]

/-- What a walk over fields holds of them. -/
def Cells (w : World) (b o n : Nat) (xs : List Fld.F) : Prop := ∃ hn : n = xs.length, b < w.heap.size ∧ ∀ j (hj : j < n), w.cell? ⟨b, o + j * 2, none⟩ = some (.string (str (xs[j]'(hn ▸ hj)).1)) ∧ w.cell? ⟨b, o + j * 2 + 1, none⟩ = some (.string (str (xs[j]'(hn ▸ hj)).2))
theorem Cells.at_ {w w' : World} {b o n : Nat} {xs : List Fld.F} (h : Cells w b o n xs) (hb : Below w.heap.size w w') (k : Nat) (hk : k < n) (hx : k < xs.length) :
    w'.cell? ⟨b, o + k * 2, none⟩ = some (.string (str xs[k].1)) ∧ w'.cell? ⟨b, o + k * 2 + 1, none⟩ = some (.string (str xs[k].2)) := by
  obtain ⟨hn, hl, h⟩ := h
  exact ⟨(hb.cell (p := ⟨b, o + k * 2, none⟩) hl).trans (h k hk).1, (hb.cell (p := ⟨b, o + k * 2 + 1, none⟩) hl).trans (h k hk).2⟩
theorem Cells.of {w : World} {ao : Option Addr} {xs : List Fld.F} {n : Nat} (hn : n = xs.length) (h0 : n ≠ 0)
    (h : xs = [] ∨ ∃ b o, ao = some ⟨b, o, none⟩ ∧ b < w.heap.size ∧ ∀ j (hj : j < xs.length), w.cell? ⟨b, o + j * 2, none⟩ = some (.string (str xs[j].1)) ∧ w.cell? ⟨b, o + j * 2 + 1, none⟩ = some (.string (str xs[j].2))) :
    ∃ b o, ao = some ⟨b, o, none⟩ ∧ Cells w b o n xs := by
  obtain ⟨b, o, h1, h2, h3⟩ := h.resolve_left (fun e => h0 (by rw [hn, e]; rfl))
  subst hn
  exact ⟨b, o, h1, rfl, h2, h3⟩

/-- A field's own block. -/
def fobj (x y : ByteArray) : Obj := .cells #[.string x, .string y] 65
theorem fcell {w w1 : World} {x y : ByteArray} (hb : Below (w.alloc (.cells #[.string x, .string y] 65)).heap.size (w.alloc (.cells #[.string x, .string y] 65)) w1) :
    w1.cell? ⟨w.heap.size, 0, none⟩ = some (.string x) ∧ w1.cell? ⟨w.heap.size, 1, none⟩ = some (.string y) ∧ Below w.heap.size w w1 := by
  have hl : w.heap.size < (w.alloc (.cells #[.string x, .string y] 65)).heap.size := by simp
  refine ⟨?_, ?_, ((Below.refl _ w).alloc (Nat.le_refl _) _).trans (hb.mono (by simp))⟩
  · rw [hb.cell (p := ⟨w.heap.size, 0, none⟩) hl, World.cell?_alloc_at _ _ _ _ rfl]; rfl
  · rw [hb.cell (p := ⟨w.heap.size, 1, none⟩) hl, World.cell?_alloc_at _ _ _ _ rfl]; rfl

set_option maxHeartbeats 800000 in
set_option maxRecDepth 100000 in
theorem fault_w (va : Value) (xs : List Fld.F) (w : World) (ha : FIn w va xs) (hs : Small xs) :
    Calls Tryz.prog 66 #[va] w fun e w' => e = .returned (.int .i64 (Fld.fault xs)) ∧ Below w.heap.size w w' := by
  obtain ⟨aa, ca, rfl, ha⟩ := ha
  obtain ⟨n, hn⟩ : ∃ n, n = xs.length := ⟨_, rfl⟩
  rw [← hn]
  have hn9 : n ≤ 1000000 := by have := hs.1; omega
  have HN := Lib.hid hn
  have HS := Lib.hid hs
  by_cases h0 : n = 0
  · subst h0
    have hx : xs = [] := List.eq_nil_of_length_eq_zero hn.symm
    have HR : Hid (0 = Fld.fault xs) := by subst hx; exact Lib.hid (by decide)
    clear hn ha hs hx
    go_enter Tryz.func66, Tryz.ntmps66
    go_wp2_with fail
    refine wp_loop_rounds 1 ?_
    rw [rounds_succ]
    go_wp2_with fail
    go_ret
    exact ⟨ret_num HR.out, Below.refl _ _⟩
  obtain ⟨ba, oa, rfl, hC⟩ := Cells.of hn h0 ha
  have HC := Lib.hid hC
  clear ha hn h0 hC hs
  go_enter Tryz.func66, Tryz.ntmps66
  go_wp2_with fail
  go_loopw [3, 8] (fun z i wr => ∃ k m : Nat, k ≤ n ∧ i = .int .i64 k ∧ z = .int .i64 m ∧ m ≤ 2 + 2000004 * k ∧ Hid (m = Fld.size (xs.take k)) ∧ Hid (Fld.allRight (xs.take k) = true) ∧ Below w.heap.size w wr) (fun _ i _ => n - (intOf i).toNat)
  case atStart => exact ⟨0, 2, by omega, rfl, rfl, by omega, Lib.hid (Fld.size_zero xs).symm, Lib.hid rfl, Below.refl _ _⟩
  case round =>
    obtain ⟨k, m, hk, rfl, rfl, hm, HM, HA, hb⟩ := hrel
    by_cases hlt : k < n
    · have ka : k < xs.length := by have := HN.out; omega
      obtain ⟨c1, c2⟩ := HC.out.at_ hb k hlt ka
      have z := HS.out.at_ k ka
      have cR := fun w => right_s xs[k] w z.1 z.2
      unfold fval at cR
      have s1 : ((str xs[k].1).size : Int) = xs[k].1.length := by rw [str_size]
      have s2 : ((str xs[k].2).size : Int) = xs[k].2.length := by rw [str_size]
      have HM2 : Hid (m + (xs[k].1.length + xs[k].2.length + 4) = Fld.size (xs.take (k + 1))) := by rw [Fld.size_snoc xs k ka, ← HM.out]; exact Lib.hid rfl
      by_cases hr : Fld.right xs[k] = true
      · have HA2 : Hid (Fld.allRight (xs.take (k + 1)) = true) := by rw [Fld.allRight_snoc xs k ka, HA.out, hr]; exact Lib.hid rfl
        rw [hr] at cR
        generalize str xs[k].1 = x at c1 cR s1
        generalize str xs[k].2 = y at c2 cR s2
        obtain ⟨l1, hl1⟩ : ∃ l1 : Nat, l1 = xs[k].1.length := ⟨_, rfl⟩
        obtain ⟨l2, hl2⟩ : ∃ l2 : Nat, l2 = xs[k].2.length := ⟨_, rfl⟩
        rw [← hl1] at s1 HM2 z
        rw [← hl2] at s2 HM2 z
        clear hr hl1 hl2
        go_wp2_with (go_at_call 86; refine (cR _).mono ?_; rintro e w1 ⟨rfl, hb1⟩; obtain ⟨f0, f1, hb2⟩ := fcell hb1)
        go_roundw
        case rel => exact ⟨k + 1, m + (l1 + l2 + 4), by omega, by go_num, by go_num, by omega, HM2, HA2, hb.trans (hb2.mono hb.size)⟩
        case measure => simp [intOf]; omega
      · have hr' : Fld.right xs[k] = false := by simpa using hr
        have HR : Hid (10 = Fld.fault xs) := Lib.hid (Fld.fault_form (Fld.allRight_miss xs k ka hr')).symm
        rw [hr'] at cR
        generalize str xs[k].1 = x at c1 cR s1
        generalize str xs[k].2 = y at c2 cR s2
        clear hr hr'
        go_wp2_with (go_at_call 86; refine (cR _).mono ?_; rintro e w1 ⟨rfl, hb1⟩; obtain ⟨f0, f1, hb2⟩ := fcell hb1)
        go_ret
        exact ⟨ret_num HR.out, hb.trans (hb2.mono hb.size)⟩
    · have hE := Fld.take_whole xs k (by have := HN.out; omega)
      rw [hE] at HM HA
      clear hE
      by_cases h128 : 128 < n
      · have HR : Hid (13 = Fld.fault xs) := Lib.hid (Fld.fault_many HA.out (by have := HN.out; omega)).symm
        have b1 : (128 : Int) < (n : Int) := by omega
        clear h128
        go_wp2_with fail
        go_ret
        exact ⟨ret_num HR.out, hb⟩
      · have b1 : ¬ (128 : Int) < (n : Int) := by omega
        by_cases h6 : 65536 < m
        · have HR : Hid (12 = Fld.fault xs) := Lib.hid (Fld.fault_long HA.out (by have := HN.out; omega) (by have := HM.out; omega)).symm
          have b2 : (65536 : Int) < (m : Int) := by omega
          clear h6 h128
          go_wp2_with fail
          go_ret
          exact ⟨ret_num HR.out, hb⟩
        · have HR : Hid (0 = Fld.fault xs) := Lib.hid (Fld.fault_ok HA.out (by have := HN.out; omega) (by have := HM.out; omega)).symm
          have b2 : ¬ (65536 : Int) < (m : Int) := by omega
          clear h6 h128
          go_wp2_with fail
          go_ret
          exact ⟨ret_num HR.out, hb⟩

set_option maxHeartbeats 800000 in
set_option maxRecDepth 100000 in
theorem rFault_w (va : Value) (xs : List Fld.F) (w : World) (ha : FIn w va xs) (hs : Small xs) :
    Calls Tryz.prog 40 #[va] w fun e w' => e = .returned (.int .i64 (Fld.fault xs)) ∧ Below w.heap.size w w' := by
  obtain ⟨aa, ca, rfl, ha⟩ := ha
  obtain ⟨n, hn⟩ : ∃ n, n = xs.length := ⟨_, rfl⟩
  rw [← hn]
  have hn9 : n ≤ 1000000 := by have := hs.1; omega
  have HN := Lib.hid hn
  have HS := Lib.hid hs
  by_cases h0 : n = 0
  · subst h0
    have hx : xs = [] := List.eq_nil_of_length_eq_zero hn.symm
    have HR : Hid (0 = Fld.fault xs) := by subst hx; exact Lib.hid (by decide)
    clear hn ha hs hx
    go_enter Tryz.func40, Tryz.ntmps40
    go_wp2_with fail
    refine wp_loop_rounds 1 ?_
    rw [rounds_succ]
    go_wp2_with fail
    refine wp_loop_rounds 1 ?_
    rw [rounds_succ]
    go_wp2_with fail
    go_ret
    exact ⟨ret_num HR.out, Below.refl _ _⟩
  obtain ⟨ba, oa, rfl, hC⟩ := Cells.of hn h0 ha
  have HC := Lib.hid hC
  clear ha hn h0 hC hs
  go_enter Tryz.func40, Tryz.ntmps40
  go_wp2_with fail
  go_loopw [4] (fun i wr => ∃ k : Nat, k ≤ n ∧ i = .int .i64 k ∧ Hid (Fld.allRight (xs.take k) = true) ∧ Below w.heap.size w wr) (fun i _ => n - (intOf i).toNat)
  case atStart => exact ⟨0, by omega, rfl, Lib.hid rfl, Below.refl _ _⟩
  case round =>
    obtain ⟨k, hk, rfl, HA, hb⟩ := hrel
    by_cases hlt : k < n
    · have ka : k < xs.length := by have := HN.out; omega
      obtain ⟨c1, c2⟩ := HC.out.at_ hb k hlt ka
      have z := HS.out.at_ k ka
      have cR := fun w => fits_s xs[k] w z.1 z.2
      unfold fval at cR
      by_cases hr : Fld.right xs[k] = true
      · have HA2 : Hid (Fld.allRight (xs.take (k + 1)) = true) := by rw [Fld.allRight_snoc xs k ka, HA.out, hr]; exact Lib.hid rfl
        rw [hr] at cR
        generalize str xs[k].1 = x at c1 cR
        generalize str xs[k].2 = y at c2 cR
        clear hr
        go_wp2_with (go_at_call 57; refine (cR _).mono ?_; rintro e w1 ⟨rfl, hb1⟩)
        go_roundw
        case rel => exact ⟨k + 1, by omega, by go_num, HA2, hb.trans (hb1.mono hb.size)⟩
        case measure => simp [intOf]; omega
      · have hr' : Fld.right xs[k] = false := by simpa using hr
        have HR : Hid (10 = Fld.fault xs) := Lib.hid (Fld.fault_form (Fld.allRight_miss xs k ka hr')).symm
        rw [hr'] at cR
        generalize str xs[k].1 = x at c1 cR
        generalize str xs[k].2 = y at c2 cR
        clear hr hr'
        go_wp2_with (go_at_call 57; refine (cR _).mono ?_; rintro e w1 ⟨rfl, hb1⟩)
        go_ret
        exact ⟨ret_num HR.out, hb.trans (hb1.mono hb.size)⟩
    · have hE := Fld.take_whole xs k (by have := HN.out; omega)
      rw [hE] at HA
      clear hE
      by_cases h128 : 128 < n
      · have HR : Hid (13 = Fld.fault xs) := Lib.hid (Fld.fault_many HA.out (by have := HN.out; omega)).symm
        have b1 : (128 : Int) < (n : Int) := by omega
        clear h128
        go_wp2_with fail
        go_ret
        exact ⟨ret_num HR.out, hb⟩
      · have b1 : ¬ (128 : Int) < (n : Int) := by omega
        go_wp2_with fail
        go_loopw [3, 5] (fun z i wx => ∃ k m q : Nat, k ≤ n ∧ i = .int .i64 k ∧ z = .int .i64 m ∧ m ≤ 65536 ∧ Hid (m = Fld.size (xs.take k)) ∧ wx = wr.drewN q) (fun _ i _ => n - (intOf i).toNat)
        case atStart => exact ⟨0, 2, 0, by omega, rfl, rfl, by omega, Lib.hid (Fld.size_zero xs).symm, rfl⟩
        case round =>
          obtain ⟨j, m, q, hj, rfl, rfl, hm, HM, rfl⟩ := hrel
          by_cases hjt : j < n
          · have ja : j < xs.length := by have := HN.out; omega
            obtain ⟨c1, c2⟩ := HC.out.at_ hb j hjt ja
            have z := HS.out.at_ j ja
            have s1 : ((str xs[j].1).size : Int) = xs[j].1.length := by rw [str_size]
            have s2 : ((str xs[j].2).size : Int) = xs[j].2.length := by rw [str_size]
            have HM2 : Hid (m + (xs[j].1.length + xs[j].2.length + 4) = Fld.size (xs.take (j + 1))) := by rw [Fld.size_snoc xs j ja, ← HM.out]; exact Lib.hid rfl
            generalize str xs[j].1 = x at c1 s1
            generalize str xs[j].2 = y at c2 s2
            obtain ⟨l1, hl1⟩ : ∃ l1 : Nat, l1 = xs[j].1.length := ⟨_, rfl⟩
            obtain ⟨l2, hl2⟩ : ∃ l2 : Nat, l2 = xs[j].2.length := ⟨_, rfl⟩
            rw [← hl1] at s1 HM2 z
            rw [← hl2] at s2 HM2 z
            clear hl1 hl2 hlt
            by_cases h6 : 65536 < m + (l1 + l2 + 4)
            · have HR : Hid (12 = Fld.fault xs) := Lib.hid (Fld.fault_long HA.out (by have := HN.out; omega) (by have := HM2.out; have := Fld.size_take xs (j + 1); omega)).symm
              have b2 : (65536 : Int) < (m : Int) + l1 + l2 + 4 := by omega
              clear h6
              go_wp2_with fail
              go_quiet (fail)
              go_wp2_with fail
              go_ret
              exact ⟨ret_num HR.out, hb.trans ((bdrewN _ _).mono hb.size)⟩
            · have b2 : ¬ (65536 : Int) < (m : Int) + l1 + l2 + 4 := by omega
              go_wp2_with fail
              go_quiet (fail)
              obtain ⟨M, hM⟩ : ∃ M : Nat, M = m + (l1 + l2 + 4) := ⟨_, rfl⟩
              have e1 : (m : Int) + l1 + l2 + 4 = (M : Int) := by omega
              have b3 : ¬ (65536 : Int) < (M : Int) := by omega
              have hM6 : M ≤ 65536 := by omega
              rw [e1]
              rw [← hM] at HM2
              clear e1 b2 h6 hM
              go_wp2_with fail
              go_roundw
              case rel => exact ⟨j + 1, M, _, by omega, by go_num, rfl, hM6, HM2, rfl⟩
              case measure => simp [intOf]; omega
          · have hE := Fld.take_whole xs j (by have := HN.out; omega)
            have HR : Hid (0 = Fld.fault xs) := Lib.hid (Fld.fault_ok HA.out (by have := HN.out; omega) (by have := HM.out; rw [hE] at this; omega)).symm
            clear hE
            go_wp2_with fail
            go_ret
            exact ⟨ret_num HR.out, hb.trans ((bdrewN _ _).mono hb.size)⟩
set_option maxHeartbeats 400000 in
theorem Right_w (va : Value) (xs : List Fld.F) (w : World) (ha : FIn w va xs) (hs : Small xs) :
    Calls Tryz.prog 42 #[va] w fun e w' => e = .returned (.bool (Fld.fault xs == 0)) ∧ Below w.heap.size w w' := by
  have cF := fault_w va xs w ha hs
  generalize Fld.fault xs = z at cF
  go_enter Tryz.func42, Tryz.ntmps42
  go_wp2_with (go_at_call 66; refine cF.mono ?_; rintro e w1 ⟨rfl, hb1⟩)
  go_ret
  exact ⟨rfl, by assumption⟩
end Go.Proofs.YtlbjjeonchcgbaaGreatDoor

namespace Go.Proofs.YtlbjjeonchcgbaaGreatDoor
open Go.RowKit

/-- 'append(b, s..)', s a string. -/
theorem appStr {ops : Array Oper} {rest : List Oper} {o : Oper} {a : Act} {Q : Exit → Act → World → Prop} {W w : World} {v : Value} {l : List UInt8} (h : Buf W w v l) (s : ByteArray) (hlen : l.length + s.size ≤ 100000000000)
    (hgd : o.guard = none) (sl x : Operand) (ho : o.op = .call { callee := .builtin .append, args := #[sl, x], argTypes := #[22, 9] })
    (hs : a.eval sl = v) (hx : a.eval x = .string s)
    (hK : ∀ v' w', Buf W w' v' (l ++ s.data.toList) → wpList Tryz.prog ops Q rest (a.put o.dst v') w') : wpList Tryz.prog ops Q (o :: rest) a w := by
  obtain ⟨i0, hi, hz0, hz1, hz2⟩ := info_parts bytes_info
  refine Lib.wpList_append_own_string _ hgd sl x _ _ ho W.heap.size 5 i0 Tryz.underlying22 Tryz.underlying9 hi hz0 hz1 hz2 v l.length (Lib.byteCells l) hs h.1 s hx (by unfold maxLen; omega) (by omega) h.2.size (fun v' w' h1 h2 _ => ?_)
  refine hK v' w' ⟨?_, h.2.grown h2 h.2.size (fun k hk => (h.1.lt k hk).1)⟩
  have e : Lib.byteCells (l ++ s.data.toList) = Lib.byteCells l ++ Lib.strCells s := by simp [Lib.byteCells, Lib.strCells]
  rw [e, List.length_append, Oct.length_size]
  exact h1

set_option maxHeartbeats 800000 in
set_option maxRecDepth 100000 in
theorem Print_no (va : Value) (xs : List Fld.F) (w : World) (ha : FIn w va xs) (hs : Small xs) (h0 : Fld.fault xs ≠ 0) :
    Calls Tryz.prog 36 #[va] w fun e w' => e = .returned (.tuple #[.slice none 0 0, .int .i64 (Fld.fault xs)]) ∧ Below w.heap.size w w' := by
  have cF := fault_w va xs w ha hs
  have b1 : (Fld.fault xs != 0) = true := by rw [bne, beq_eq_false_iff_ne.2 h0]; rfl
  generalize Fld.fault xs = z at cF b1
  clear h0
  go_enter Tryz.func36, Tryz.ntmps36
  go_wp2_with (go_at_call 66; refine cF.mono ?_; rintro e w1 ⟨rfl, hb1⟩)
  go_ret2
  exact ⟨rfl, by assumption⟩

theorem line_data (x y : ByteArray) (f : Fld.F) (hx : x = str f.1) (hy : y = str f.2) : (x ++ ⟨#[58, 32]⟩ ++ y ++ ⟨#[13, 10]⟩ : ByteArray).data.toList = Fld.line f := by
  subst hx hy
  unfold Fld.line
  simp [str]
set_option maxHeartbeats 1600000 in
set_option maxRecDepth 100000 in
theorem Print_yes (va : Value) (xs : List Fld.F) (w : World) (ha : FIn w va xs) (hs : Small xs) (h0 : Fld.fault xs = 0) :
    Calls Tryz.prog 36 #[va] w fun e w' => ∃ v, e = .returned (.tuple #[v, .int .i64 0]) ∧ Buf w w' v (Fld.print xs) := by
  have cF := fault_w va xs w ha hs
  rw [h0] at cF
  obtain ⟨_, _, h6⟩ := Fld.fault_zero h0
  obtain ⟨aa, ca, rfl, ha⟩ := ha
  obtain ⟨n, hn⟩ : ∃ n, n = xs.length := ⟨_, rfl⟩
  rw [← hn] at cF ⊢
  have hn9 : n ≤ 1000000 := by have := hs.1; omega
  have HN := Lib.hid hn
  have HS := Lib.hid hs
  have H6 := Lib.hid h6
  have HP : Hid (Fld.print xs = Fld.lines xs ++ [13, 10]) := Lib.hid rfl
  by_cases hz : n = 0
  · subst hz
    have hx : xs = [] := List.eq_nil_of_length_eq_zero hn.symm
    have HX := Lib.hid hx
    clear hn ha hs h0 h6 hx
    go_enter Tryz.func36, Tryz.ntmps36
    go_wp2_with (go_at_call 66; refine cF.mono ?_; rintro e w1 ⟨rfl, hb1⟩)
    refine wp_loop_rounds 1 ?_
    rw [rounds_succ]
    have hB := Buf.nil_of hb1
    go_wp2_with (at_builtin; refine appStr hB ⟨#[13, 10]⟩ (by decide) rfl _ _ rfl rfl rfl ?_; intro v' w' hB')
    go_ret2
    exact ⟨_, rfl, by rw [HX.out]; exact hB'⟩
  obtain ⟨ba, oa, rfl, hC⟩ := Cells.of hn hz ha
  have HC := Lib.hid hC
  clear ha hn hz hC hs h0 h6
  go_enter Tryz.func36, Tryz.ntmps36
  go_wp2_with (go_at_call 66; refine cF.mono ?_; rintro e w1 ⟨rfl, hb1⟩)
  clear cF
  go_loopw [5, 15] (fun v i wr => ∃ k : Nat, k ≤ n ∧ i = .int .i64 k ∧ Buf w wr v (Fld.lines (xs.take k))) (fun _ i _ => n - (intOf i).toNat)
  case atStart => exact ⟨0, by omega, rfl, Buf.nil_of hb1⟩
  case round =>
    obtain ⟨k, hk, rfl, hB⟩ := hrel
    by_cases hlt : k < n
    · have ka : k < xs.length := by have := HN.out; omega
      obtain ⟨c1, c2⟩ := HC.out.at_ hB.below k hlt ka
      have z := HS.out.at_ k ka
      have HL := Lib.hid (Fld.lines_snoc xs k ka)
      have s1 : (str xs[k].1).size ≤ 1000000 := by rw [str_size]; exact z.1
      have s2 : (str xs[k].2).size ≤ 1000000 := by rw [str_size]; exact z.2
      have hln : (Fld.lines (xs.take k)).length ≤ 65536 := by
        have := Fld.lines_length (xs.take k); have := Fld.size_take xs k; have := H6.out; omega
      have HD := line_data (str xs[k].1) (str xs[k].2) xs[k] rfl rfl
      obtain ⟨x, hx⟩ : ∃ x, x = str xs[k].1 := ⟨_, rfl⟩
      obtain ⟨y, hy⟩ : ∃ y, y = str xs[k].2 := ⟨_, rfl⟩
      rw [← hx] at c1 s1 HD
      rw [← hy] at c2 s2 HD
      have HD2 := Lib.hid HD
      clear hx hy HD z
      obtain ⟨L, hL⟩ : ∃ L, L = Fld.lines (xs.take k) := ⟨_, rfl⟩
      rw [← hL] at hB hln
      have HL2 := Lib.hid hL
      clear hL
      have hsum : L.length + (x ++ ⟨#[58, 32]⟩ ++ y ++ ⟨#[13, 10]⟩ : ByteArray).size ≤ 100000000000 := by
        rw [ByteArray.size_append, ByteArray.size_append, ByteArray.size_append, show (⟨#[58, 32]⟩ : ByteArray).size = 2 from rfl, show (⟨#[13, 10]⟩ : ByteArray).size = 2 from rfl]; omega
      go_wp2_with (at_builtin; refine appStr (hB.alloc _) (x ++ ⟨#[58, 32]⟩ ++ y ++ ⟨#[13, 10]⟩) hsum rfl _ _ rfl rfl rfl ?_; intro v' w' hB')
      go_roundw
      case rel => exact ⟨k + 1, by omega, by go_num, by rw [HL.out, ← HL2.out, ← HD2.out]; simpa using hB'⟩
      case measure => simp [intOf]; omega
    · have hE := Fld.take_whole xs k (by have := HN.out; omega)
      rw [hE] at hB
      clear hE
      have hln : (Fld.lines xs).length ≤ 65536 := by have := Fld.lines_length xs; have := H6.out; omega
      obtain ⟨L, hL⟩ : ∃ L, L = Fld.lines xs := ⟨_, rfl⟩
      rw [← hL] at hB hln
      have HL2 := Lib.hid hL
      clear hL
      have hsum : L.length + (⟨#[13, 10]⟩ : ByteArray).size ≤ 100000000000 := by
        rw [show (⟨#[13, 10]⟩ : ByteArray).size = 2 from rfl]; omega
      go_wp2_with (at_builtin; refine appStr hB ⟨#[13, 10]⟩ hsum rfl _ _ rfl rfl rfl ?_; intro v' w' hB')
      go_ret2
      exact ⟨_, rfl, by rw [HP.out, ← HL2.out]; exact hB'⟩

set_option maxHeartbeats 1600000 in
set_option maxRecDepth 100000 in
theorem rPrint_w (va : Value) (xs : List Fld.F) (w : World) (ha : FIn w va xs) (hs : Small xs) :
    Calls Tryz.prog 45 #[va] w fun e w' => e = .returned (.string (str (Fld.print xs))) ∧ Below w.heap.size w w' := by
  obtain ⟨aa, ca, rfl, ha⟩ := ha
  obtain ⟨n, hn⟩ : ∃ n, n = xs.length := ⟨_, rfl⟩
  rw [← hn]
  have hn9 : n ≤ 1000000 := by have := hs.1; omega
  have HN := Lib.hid hn
  have HS := Lib.hid hs
  by_cases hz : n = 0
  · subst hz
    have hx : xs = [] := List.eq_nil_of_length_eq_zero hn.symm
    have HX : Hid (⟨#[13, 10]⟩ = str (Fld.print xs)) := by subst hx; exact Lib.hid rfl
    clear hn ha hs hx
    go_enter Tryz.func45, Tryz.ntmps45
    go_wp2_with fail
    refine wp_loop_rounds 1 ?_
    rw [rounds_succ]
    go_wp2_with fail
    go_ret
    exact ⟨ret_str HX.out, Below.refl _ _⟩
  obtain ⟨ba, oa, rfl, hC⟩ := Cells.of hn hz ha
  have HC := Lib.hid hC
  clear ha hn hz hC hs
  go_enter Tryz.func45, Tryz.ntmps45
  go_wp2_with fail
  go_loopw [3, 4] (fun v i wr => ∃ (k q : Nat) (t : ByteArray), k ≤ n ∧ i = .int .i64 k ∧ v = .string t ∧ t.size ≤ 2000004 * k ∧ Hid (t = str (Fld.lines (xs.take k))) ∧ wr = w.drewN q) (fun _ i _ => n - (intOf i).toNat)
  case atStart => exact ⟨0, 0, ⟨#[]⟩, by omega, rfl, rfl, by decide, Lib.hid rfl, rfl⟩
  case round =>
    obtain ⟨k, q, t, hk, rfl, rfl, ht, HT, rfl⟩ := hrel
    by_cases hlt : k < n
    · have ka : k < xs.length := by have := HN.out; omega
      obtain ⟨c1, c2⟩ := HC.out.at_ (Below.refl _ w) k hlt ka
      have z := HS.out.at_ k ka
      have HL := Lib.hid (Fld.lines_snoc xs k ka)
      have s1 : (str xs[k].1).size ≤ 1000000 := by rw [str_size]; exact z.1
      have s2 : (str xs[k].2).size ≤ 1000000 := by rw [str_size]; exact z.2
      have hw : (Fld.line xs[k]).length ≤ 2000004 := by rw [Fld.line_length]; unfold Fld.weight; omega
      have HD := line_data (str xs[k].1) (str xs[k].2) xs[k] rfl rfl
      obtain ⟨x, hx⟩ : ∃ x, x = str xs[k].1 := ⟨_, rfl⟩
      obtain ⟨y, hy⟩ : ∃ y, y = str xs[k].2 := ⟨_, rfl⟩
      rw [← hx] at c1 s1 HD
      rw [← hy] at c2 s2 HD
      have HD2 := Lib.hid HD
      obtain ⟨U, hU⟩ : ∃ U : ByteArray, U = t ++ x ++ ⟨#[58, 32]⟩ ++ y ++ ⟨#[13, 10]⟩ := ⟨_, rfl⟩
      have HU : Hid (U = str (Fld.lines (xs.take (k + 1)))) := by
        refine Lib.hid ?_
        rw [HL.out, ← HD2.out, hU, ← str_of (t ++ x ++ ⟨#[58, 32]⟩ ++ y ++ ⟨#[13, 10]⟩)]
        congr 1
        have := congrArg (fun b : ByteArray => b.data.toList) HT.out
        simp only [str_list] at this
        rw [← this]
        simp
      have hUs : U.size ≤ 2000004 * (k + 1) := by
        have e : U.size = t.size + (Fld.line xs[k]).length := by
          rw [← HD2.out, hU, Lib.size_eq, Lib.size_eq]; simp
        omega
      have HUU := Lib.hid hU
      have a1 : t.size + x.size ≤ 9223372036854775807 := by omega
      have a2 : (t ++ x).size + (⟨#[58, 32]⟩ : ByteArray).size ≤ 9223372036854775807 := by
        rw [ByteArray.size_append, show (⟨#[58, 32]⟩ : ByteArray).size = 2 from rfl]; omega
      have a3 : (t ++ x ++ ⟨#[58, 32]⟩).size + y.size ≤ 9223372036854775807 := by
        rw [ByteArray.size_append, ByteArray.size_append, show (⟨#[58, 32]⟩ : ByteArray).size = 2 from rfl]; omega
      have a4 : (t ++ x ++ ⟨#[58, 32]⟩ ++ y).size + (⟨#[13, 10]⟩ : ByteArray).size ≤ 9223372036854775807 := by
        rw [ByteArray.size_append, ByteArray.size_append, ByteArray.size_append, show (⟨#[58, 32]⟩ : ByteArray).size = 2 from rfl, show (⟨#[13, 10]⟩ : ByteArray).size = 2 from rfl]; omega
      clear hx hy HD z hw hU
      go_wp2_with fail
      go_quiet (fail)
      go_wp2_with fail
      go_roundw
      case rel => exact ⟨k + 1, _, U, by omega, by go_num, by rw [HUU.out], hUs, HU, rfl⟩
      case measure => simp [intOf]; omega
    · have hE := Fld.take_whole xs k (by have := HN.out; omega)
      have HR : Hid (t ++ ⟨#[13, 10]⟩ = str (Fld.print xs)) := by
        refine Lib.hid ?_
        rw [← str_of (t ++ ⟨#[13, 10]⟩)]
        congr 1
        have := congrArg (fun b : ByteArray => b.data.toList) HT.out
        simp only [str_list] at this
        rw [hE] at this
        unfold Fld.print
        rw [← this]
        simp
      clear hE
      go_wp2_with fail
      go_ret
      exact ⟨ret_str HR.out, bdrewN _ _⟩
end Go.Proofs.YtlbjjeonchcgbaaGreatDoor

namespace Go.Proofs.YtlbjjeonchcgbaaGreatDoor
open Go.RowKit

set_option maxHeartbeats 800000 in
set_option maxRecDepth 100000 in
theorem Lower_big (s : ByteArray) (w : World) (hs : s.size ≤ 9223372036854775807) :
    Calls Tryz.prog 75 #[.string s] w fun e w' => e = .returned (.string (str (Oct.lower s.data.toList))) ∧ Below w.heap.size w w' := by
  have hcv := run_bytes_of_string (P := Tryz.prog) w 9 22 5 s Tryz.underlying9 Tryz.underlying22 Tryz.underlying5
  have hR := Row.copy w s (grownCap w s.size 0 5)
  have hb1 : Below w.heap.size w ((w.drew.alloc (.cells (bytesRow s (grownCap w s.size 0 5)) 5 ((bytesRow s (grownCap w s.size 0 5)).size, (bytesRow s (grownCap w s.size 0 5)).size + 1)))) := (Below.refl _ w).drew.alloc (Nat.le_refl _) _
  generalize grownCap w s.size 0 5 = cap at hcv hR hb1
  generalize ((w.drew.alloc (.cells (bytesRow s cap) 5 ((bytesRow s cap).size, (bytesRow s cap).size + 1)))) = W1 at hcv hR hb1
  go_enter Tryz.func75, Tryz.ntmps75
  go_wp2_with fail
  clear hcv
  go_loopw [4, 9] (fun _ i wr => ∃ k : Nat, k ≤ s.size ∧ i = .int .i64 k ∧ Row wr w.heap.size (Oct.lowTo s.data.toList k) ∧ Below w.heap.size w wr) (fun _ i _ => s.size - (intOf i).toNat)
  case atStart => exact ⟨0, by omega, rfl, by rw [Oct.lowTo_zero]; exact hR, hb1⟩
  case round =>
    obtain ⟨k, hk, rfl, hR', hb⟩ := hrel
    clear hR hb1
    by_cases hlt : k < s.size
    · have hkl : k < (Oct.lowTo s.data.toList k).length := by rw [Oct.lowTo_length, Oct.length_size]; exact hlt
      obtain ⟨hcell, hfz⟩ := hR'.cell k hkl
      rw [Oct.lowTo_at s k hlt] at hcell
      have HN := Lib.hid (Oct.lowTo_next s k hlt)
      have hc := (s[k]).toNat_lt
      rcases (show (s[k].toNat : Int) < 65 ∨ ((65 : Int) ≤ s[k].toNat ∧ (s[k].toNat : Int) ≤ 90) ∨ (90 : Int) < s[k].toNat by omega) with hu | ⟨h1, h2⟩ | hu
      · have HL := Lib.hid (Oct.lowTo_same s k hlt (by omega))
        go_wp2_with fail
        go_roundw
        case rel => exact ⟨k + 1, by omega, by go_num, by rw [HL.out]; exact hR', hb⟩
        case measure => simp [intOf]; omega
      · have HS := hR'.set k hkl (Oct.low s[k]) _ (Oct.low_yes s[k] h1 h2)
        go_wp2_with fail
        go_roundw
        case rel => exact ⟨k + 1, by omega, by go_num, by rw [HN.out]; exact HS, hb.setCell (Nat.le_refl _) _⟩
        case measure => simp [intOf]; omega
      · have HL := Lib.hid (Oct.lowTo_same s k hlt (by omega))
        go_wp2_with fail
        go_roundw
        case rel => exact ⟨k + 1, by omega, by go_num, by rw [HL.out]; exact hR', hb⟩
        case measure => simp [intOf]; omega
    · obtain rfl : k = s.size := by omega
      have hsz : (Oct.lowTo s.data.toList s.size).length = s.size := by rw [Oct.lowTo_length, Oct.length_size]
      have hcv := run_convert_bytes_back (P := Tryz.prog) wr 22 9 5 ⟨w.heap.size, 0, none⟩ cap (Oct.lowTo s.data.toList s.size) Tryz.underlying22 Tryz.underlying5 Tryz.underlying9 (fun j hj => by
        rw [Addr.add_lit, Nat.zero_add]; exact (hR'.cell j hj).1)
      rw [hsz] at hcv
      clear hsz
      go_wp2_with fail
      go_ret
      exact ⟨ret_str (by rw [Oct.lowTo_all]; rfl), hb⟩


theorem undrew {w w1 : World} (h : Below w.drew.heap.size w.drew w1) : Below w.heap.size w w1 := (Below.refl _ w).drew.trans h

/-- A field's block and a second one, behind a call. -/
theorem fcell2 {w w1 : World} {x y : ByteArray} {o : Obj} (hb : Below ((w.alloc (.cells #[.string x, .string y] 65)).alloc o).heap.size ((w.alloc (.cells #[.string x, .string y] 65)).alloc o) w1) :
    w1.cell? ⟨w.heap.size, 0, none⟩ = some (.string x) ∧ w1.cell? ⟨w.heap.size, 1, none⟩ = some (.string y) ∧ w1.heap[w.heap.size + 1]? = some o ∧ Below w.heap.size w w1 := by
  have hl : w.heap.size < ((w.alloc (.cells #[.string x, .string y] 65)).alloc o).heap.size := by simp; omega
  have hl2 : w.heap.size + 1 < ((w.alloc (.cells #[.string x, .string y] 65)).alloc o).heap.size := by simp
  have hl1 : w.heap.size < (w.alloc (.cells #[.string x, .string y] 65)).heap.size := by simp
  refine ⟨?_, ?_, ?_, (((Below.refl _ w).alloc (Nat.le_refl _) _).alloc (by simp) _).trans (hb.mono (by simp; omega))⟩
  · rw [hb.cell (p := ⟨w.heap.size, 0, none⟩) hl, World.cell?_alloc_lt _ _ _ hl1, World.cell?_alloc_at _ _ _ _ rfl]; rfl
  · rw [hb.cell (p := ⟨w.heap.size, 1, none⟩) hl, World.cell?_alloc_lt _ _ _ hl1, World.cell?_alloc_at _ _ _ _ rfl]; rfl
  · rw [hb.block _ hl2]
    have := heap_alloc_new (w.alloc (.cells #[.string x, .string y] 65)) o
    simpa using this

/-- A block of two cells. -/
theorem blk2 {w : World} {g : Nat} {a b : Value} {t : TypeId} (h : w.heap[g]? = some (.cells #[a, b] t (0, 0))) :
    w.cell? ⟨g, 0, none⟩ = some a ∧ w.cell? ⟨g, 1, none⟩ = some b ∧ w.frozen? ⟨g, 0, none⟩ = false ∧ w.frozen? ⟨g, 1, none⟩ = false := by
  refine ⟨?_, ?_, ?_, ?_⟩
  · simp only [World.cell?, h]; rfl
  · simp only [World.cell?, h]; rfl
  · simp only [World.frozen?, h]; rfl
  · simp only [World.frozen?, h]; rfl

theorem set2 {w : World} {g : Nat} {a b : Value} {t : TypeId} (h : w.heap[g]? = some (.cells #[a, b] t (0, 0))) (x y : Value) :
    ((w.setCell ⟨g, 0, none⟩ x).setCell ⟨g, 1, none⟩ y).heap[g]? = some (.cells #[x, y] t (0, 0)) := by
  simp [World.setCell, Array.getElem?_modify, h]

set_option maxHeartbeats 1600000 in
set_option maxRecDepth 100000 in
theorem clone_s (f : Fld.F) (w : World) (h0 : f.1.length ≤ 1000000) (h1 : f.2.length ≤ 1000000) :
    Calls Tryz.prog 77 #[fval f] w fun e w' => e = .returned (fval f) ∧ Below w.heap.size w w' := by
  obtain ⟨n, v⟩ := f
  have z0 : (str n).size ≤ 1000000 := by rw [str_size]; exact h0
  have z1 : (str v).size ≤ 1000000 := by rw [str_size]; exact h1
  have c0 := fun w => Clone_s (str n) w z0
  have c1 := fun w => Clone_s (str v) w z1
  unfold fval
  generalize str n = x at *
  generalize str v = y at *
  clear h0 h1 z0 z1
  go_enter Tryz.func77, Tryz.ntmps77
  go_wp2_with fail
  go_region_with (first | (go_at_call 48; refine (c0 _).mono ?_; rintro e w1 ⟨rfl, hb1⟩; obtain ⟨e0, e1, e2, hb3⟩ := fcell2 (undrew hb1)) | (go_at_call 48; refine (c1 _).mono ?_; rintro e w2 ⟨rfl, hb2⟩; have g2 := (hb2.block _ (lt_of_block e2)).trans e2; obtain ⟨k0, k1, k2, k3⟩ := blk2 g2))
  all_goals go_wp2_with fail
  all_goals (try simp only [Exit.inBlock, Exit.then])
  all_goals refine bodyPost_ret (v := .agg #[.string x, .string y]) (results_cell_row rfl _ _ (w.heap.size + 1) _ _ (0, 0) _ rfl (set2 g2 _ _) Tryz.underlying65 rfl (by kernel_rfl)) rfl ?_
  all_goals exact ⟨rfl, ((hb3.trans (hb2.mono hb3.size)).setCell (Nat.le_succ _) _).setCell (Nat.le_succ _) _⟩

/-! ### sets of names, and numbers by name -/
def SetIs (w : World) (b n : Nat) (mem : List UInt8 → Bool) : Prop := ∃ D : DataW Unit, w.ownsMap Tryz.prog 9 unitElem b n D ∧ ∀ l, Maps.has D (.string l) = mem l
theorem strKeyed : Maps.Keyed Tryz.prog 9 := Maps.string_keyed Tryz.underlying9
theorem zeroUnit (w : World) : (zeroValue 107).run Tryz.prog w = .ok (.agg #[]) w := by kernel_rfl
theorem zeroInt (w : World) : (zeroValue 3).run Tryz.prog w = .ok (.int .i64 0) w := by kernel_rfl
theorem SetIs.later {w w' : World} {b n : Nat} {mem : List UInt8 → Bool} (h : SetIs w b n mem) (hb : w'.heap[b]? = w.heap[b]?) : SetIs w' b n mem := by
  obtain ⟨D, ⟨es, clock, h1, h2⟩, h3⟩ := h
  exact ⟨D, ⟨es, clock, hb.trans h1, h2⟩, h3⟩
theorem SetIs.lt {w : World} {b n : Nat} {mem : List UInt8 → Bool} (h : SetIs w b n mem) : b < w.heap.size := by
  obtain ⟨D, h, _⟩ := h; exact h.lt
theorem SetIs.made (w : World) : SetIs (w.alloc (.map #[] 0)) w.heap.size 0 (fun _ => false) := ⟨_, World.ownsMap_made w _ _ _, fun _ => rfl⟩
theorem litKey (l : List UInt8) : WideAt.IsKeyLit (.string l) := trivial
theorem SetIs.store {w : World} {b n : Nat} {mem : List UInt8 → Bool} (h : SetIs w b n mem) (hn : n ≤ 1000000000) (s : ByteArray) (hs : s.size ≤ 9223372036854775807) :
    ∃ w', (Instr.mapUpdate 105 (.map (some b)) (.string s) (.agg #[])).run Tryz.prog w = .ok () w' ∧ SetIs w' b (n + 1) (fun l => l == s.data.toList || mem l) ∧ w.mapTurned w' b := by
  obtain ⟨D, h1, h2⟩ := h
  obtain ⟨w', hr, h3, h4⟩ := h1.store strKeyed Tryz.underlying105 (by unfold maxLen; omega) (WideMaps.keyOf_string_mk Tryz.underlying9 (s := s) (by unfold maxLen; omega)) (unitElem_mk (H := Unit))
  refine ⟨w', hr, ⟨_, h3, fun l => ?_⟩, h4⟩
  by_cases e : l = s.data.toList
  · subst e
    rw [Maps.has_put_same h1.isMap (litKey _)]; simp
  · rw [Maps.has_put_other (by simpa using e), h2]; simp [e]
theorem SetIs.look {w : World} {b n : Nat} {mem : List UInt8 → Bool} (h : SetIs w b n mem) (s : ByteArray) (hs : s.size ≤ 9223372036854775807) :
    (Instr.lookup 105 (.map (some b)) (.string s) true).run Tryz.prog w = .ok (.tuple #[.agg #[], .bool (mem s.data.toList)]) w := by
  obtain ⟨D, h1, h2⟩ := h
  obtain ⟨v, ps, hr, hv⟩ := h1.look_ok strKeyed Tryz.underlying105 (zeroUnit w) (unitElem_mk (H := Unit)) (WideMaps.keyOf_string_mk Tryz.underlying9 (s := s) (by unfold maxLen; omega))
  rw [hr, (unitElem_inv hv).1, h2]

def MapIs (w : World) (b n : Nat) (look : List UInt8 → Option Int) : Prop := ∃ D : DataW Unit, w.ownsMap Tryz.prog 9 (plainElem Tryz.prog 3) b n D ∧ ∀ l, Maps.has D (.string l) = (look l).isSome ∧ ∀ i, look l = some i → ∀ z, D.atKey (.string l) z = .lit (.int .i64 i)
theorem MapIs.later {w w' : World} {b n : Nat} {mem : List UInt8 → Option Int} (h : MapIs w b n mem) (hb : w'.heap[b]? = w.heap[b]?) : MapIs w' b n mem := by
  obtain ⟨D, ⟨es, clock, h1, h2⟩, h3⟩ := h
  exact ⟨D, ⟨es, clock, hb.trans h1, h2⟩, h3⟩
theorem MapIs.lt {w : World} {b n : Nat} {mem : List UInt8 → Option Int} (h : MapIs w b n mem) : b < w.heap.size := by
  obtain ⟨D, h, _⟩ := h; exact h.lt
theorem MapIs.made (w : World) : MapIs (w.alloc (.map #[] 0)) w.heap.size 0 (fun _ => none) := ⟨_, World.ownsMap_made w _ _ _, fun _ => ⟨rfl, fun _ h => by cases h⟩⟩
theorem MapIs.store {w : World} {b n : Nat} {look : List UInt8 → Option Int} (h : MapIs w b n look) (hn : n ≤ 1000000000) (s : ByteArray) (hs : s.size ≤ 9223372036854775807) (i : Int) (hi : (Lit.int .i64 i).wf = true) :
    ∃ w', (Instr.mapUpdate 104 (.map (some b)) (.string s) (.int .i64 i)).run Tryz.prog w = .ok () w' ∧ MapIs w' b (n + 1) (fun l => if l = s.data.toList then some i else look l) ∧ w.mapTurned w' b := by
  obtain ⟨D, h1, h2⟩ := h
  obtain ⟨w', hr, h3, h4⟩ := h1.store strKeyed Tryz.underlying104 (by unfold maxLen; omega) (WideMaps.keyOf_string_mk Tryz.underlying9 (s := s) (by unfold maxLen; omega)) (plainElem_int (H := Unit) Tryz.underlying3 hi)
  refine ⟨w', hr, ⟨_, h3, fun l => ?_⟩, h4⟩
  by_cases e : l = s.data.toList
  · subst e
    simp only [if_true]
    refine ⟨Maps.has_put_same h1.isMap (litKey _) _, fun j hj z => ?_⟩
    cases hj
    exact Maps.atKey_put_same h1.isMap (litKey _) _ _
  · simp only [if_neg e]
    refine ⟨by rw [Maps.has_put_other (by simpa using e)]; exact (h2 l).1, fun j hj z => ?_⟩
    rw [Maps.atKey_put_other (by simpa using e)]
    exact (h2 l).2 j hj z
theorem MapIs.look {w : World} {b n : Nat} {look : List UInt8 → Option Int} (h : MapIs w b n look) (s : ByteArray) (hs : s.size ≤ 9223372036854775807) :
    ∃ c : Int, (Instr.lookup 104 (.map (some b)) (.string s) true).run Tryz.prog w = .ok (.tuple #[.int .i64 c, .bool (look s.data.toList).isSome]) w ∧ ∀ i, look s.data.toList = some i → c = i := by
  obtain ⟨D, h1, h2⟩ := h
  obtain ⟨v, ps, hr, hv⟩ := h1.look_ok strKeyed Tryz.underlying104 (zeroInt w) (plainElem_int (H := Unit) Tryz.underlying3 (by decide)) (WideMaps.keyOf_string_mk Tryz.underlying9 (s := s) (by unfold maxLen; omega))
  obtain ⟨c, rfl, hc, _⟩ := plainElem_int_inv Tryz.underlying3 hv
  refine ⟨c, by rw [hr, (h2 _).1], fun i hi => ?_⟩
  rw [(h2 _).2 i hi] at hc
  simp at hc
  exact hc.1.symm

end Go.Proofs.YtlbjjeonchcgbaaGreatDoor

namespace Go.Proofs.YtlbjjeonchcgbaaGreatDoor
open Go.RowKit

/-- Is a name, in small letters, one of these? -/
def inSet (ls : List (List UInt8)) (l : List UInt8) : Bool := (ls.map Oct.lower).contains l
theorem inSet_snoc (ls : List (List UInt8)) (k : Nat) (h : k < ls.length) (l : List UInt8) : inSet (ls.take (k + 1)) l = (l == Oct.lower ls[k] || inSet (ls.take k) l) := by
  unfold inSet
  rw [List.take_succ_eq_append_getElem h, List.map_append, List.contains_eq_any_beq, List.contains_eq_any_beq, List.any_append]
  simp [Bool.or_comm]
theorem inSet_zero (ls : List (List UInt8)) : inSet (ls.take 0) = fun _ => false := rfl
/-- The map's variable lies in block g, the map in block b. -/
structure NamesAt (W w : World) (b g n : Nat) (mem : List UInt8 → Bool) : Prop where
  var : w.heap[g]? = some (.cells #[.map (some b)] 105 (0, 0))
  set : SetIs w b n mem
  ne : g ≠ b
  bb : W.heap.size ≤ b
  bg : W.heap.size ≤ g
  below : Below W.heap.size W w
theorem NamesAt.later {W w w' : World} {b g n : Nat} {mem : List UInt8 → Bool} (h : NamesAt W w b g n mem) (hb : Below w.heap.size w w') : NamesAt W w' b g n mem :=
  ⟨(hb.block _ (lt_of_block h.var)).trans h.var, h.set.later (hb.block _ h.set.lt), h.ne, h.bb, h.bg, h.below.trans (hb.mono h.below.size)⟩
theorem NamesAt.turned {W w w' : World} {b g n m : Nat} {mem mem' : List UInt8 → Bool} (h : NamesAt W w b g n mem) (ht : w.mapTurned w' b) (hs : SetIs w' b m mem') : NamesAt W w' b g m mem' := by
  have hg := ht.grown
  exact ⟨(hg.block _ (lt_of_block h.var) (by simpa using h.ne)).trans h.var, hs, h.ne, h.bb, h.bg, h.below.grown hg h.below.size (fun k hk => by cases hk; exact h.bb)⟩
theorem NamesAt.start (W : World) : NamesAt W ((W.alloc (.map #[] 0)).alloc (.cells #[.map (some W.heap.size)] 105)) W.heap.size (W.heap.size + 1) 0 (fun _ => false) := by
  refine ⟨?_, (SetIs.made W).later ?_, by omega, Nat.le_refl _, Nat.le_succ _, ((Below.refl _ W).alloc (Nat.le_refl _) _).alloc (by simp) _⟩
  · have := heap_alloc_new (W.alloc (.map #[] 0)) (.cells #[.map (some W.heap.size)] 105)
    simpa using this
  · exact Below.heap_alloc _ _ _ (by simp)
theorem NamesAt.cell {W w : World} {b g n : Nat} {mem : List UInt8 → Bool} (h : NamesAt W w b g n mem) : w.cell? ⟨g, 0, none⟩ = some (.map (some b)) := by
  simp only [World.cell?, h.var]; rfl

theorem SIn.at_ {w : World} {v : Value} {ls : List (List UInt8)} (h : SIn w v ls) (hne : ls ≠ []) : ∃ b o cap, v = .slice (some ⟨b, o, none⟩) ls.length cap ∧ ∀ w', Below w.heap.size w w' → ∀ j (hj : j < ls.length), w'.cell? ⟨b, o + j, none⟩ = some (.string (str ls[j])) := by
  obtain ⟨ao, cap, rfl, h⟩ := h
  obtain ⟨b, o, rfl, h1, h2⟩ := h.resolve_left hne
  exact ⟨b, o, cap, rfl, fun w' hb j hj => (hb.cell (p := ⟨b, o + j, none⟩) h1).trans (h2 j hj)⟩
theorem lower_size (l : List UInt8) : (str (Oct.lower l)).size = l.length := by rw [str_size, Oct.lower_length]

set_option maxHeartbeats 1600000 in
set_option maxRecDepth 100000 in
theorem among_w (va : Value) (ls : List (List UInt8)) (w : World) (ha : SIn w va ls) (hl : ls.length ≤ 1000000) (hs : ∀ l ∈ ls, l.length ≤ 9223372036854775807) :
    Calls Tryz.prog 81 #[va] w fun e w' => ∃ b g, e = .returned (.func (.func 97) #[] #[.pointer (some ⟨g, 0, none⟩)]) ∧ NamesAt w w' b g ls.length (inSet ls) := by
  have hmm := @run_makeMap Tryz.prog
  have hmf : ∀ (fn : Fn) (first cap : Array Value) (w : World), (Instr.makeFunc fn first cap).run Tryz.prog w = .ok (.func fn first cap) w := fun _ _ _ _ => rfl
  have hst := NamesAt.start w
  by_cases h0 : ls = []
  · obtain ⟨ao, cap, rfl, _⟩ := ha
    have HL := Lib.hid h0
    have e0 : ls.length = 0 := by rw [h0]; rfl
    rw [e0]
    clear h0 hs hl e0
    go_enter Tryz.func81, Tryz.ntmps81
    go_wp2_with fail
    refine wp_loop_rounds 1 ?_
    rw [rounds_succ]
    go_wp2_with fail
    go_ret
    exact ⟨_, _, rfl, by rw [HL.out]; exact hst⟩
  obtain ⟨b, o, cap, rfl, hc⟩ := ha.at_ h0
  obtain ⟨n, hn⟩ : ∃ n, n = ls.length := ⟨_, rfl⟩
  have HN := Lib.hid hn
  have HC : Hid (∀ w', Below w.heap.size w w' → ∀ j (hj : j < ls.length), w'.cell? ⟨b, o + j, none⟩ = some (.string (str ls[j]))) := hc
  have HS := Lib.hid hs
  rw [← hn] at hl ⊢
  clear ha h0 hc hs hn
  go_enter Tryz.func81, Tryz.ntmps81
  go_wp2_with fail
  go_loopw [5, 9] (fun _ i wr => ∃ k : Nat, k ≤ n ∧ i = .int .i64 k ∧ NamesAt w wr w.heap.size (w.heap.size + 1) k (inSet (ls.take k))) (fun _ i _ => n - (intOf i).toNat)
  case atStart => exact ⟨0, by omega, rfl, by rw [inSet_zero]; exact hst⟩
  case round =>
    obtain ⟨k, hk, rfl, hN⟩ := hrel
    clear hst
    by_cases hlt : k < n
    · have ka : k < ls.length := by have := HN.out; omega
      have c1 := HC.out wr hN.below k ka
      have z : (str ls[k]).size ≤ 9223372036854775807 := by rw [str_size]; exact HS.out _ (List.getElem_mem ka)
      have cL := fun w => Lower_big (str ls[k]) w z
      rw [str_list] at cL
      have z2 : (str (Oct.lower ls[k])).size ≤ 9223372036854775807 := by rw [lower_size]; exact HS.out _ (List.getElem_mem ka)
      have HM : Hid (∀ l, inSet (ls.take (k + 1)) l = (l == (str (Oct.lower ls[k])).data.toList || inSet (ls.take k) l)) := fun l => by rw [str_list]; exact inSet_snoc ls k ka l
      generalize str ls[k] = x at c1 cL
      generalize str (Oct.lower ls[k]) = y at cL z2 HM
      obtain ⟨mem, hmem⟩ : ∃ mem, mem = inSet (ls.take k) := ⟨_, rfl⟩
      rw [← hmem] at hN HM
      have hv := hN.cell
      clear z hmem
      go_wp2_with fail
      go_region_with (go_at_call 75; refine (cL _).mono ?_; rintro e w1 ⟨rfl, hb1⟩; have hN1 := hN.later (undrew hb1); have hv1 := hN1.cell; obtain ⟨w2, hr, hset, htn⟩ := hN1.set.store (by omega) y z2)
      all_goals
        go_wp2_with fail
        go_roundw
        case rel => exact ⟨k + 1, by omega, by go_num, by rw [show inSet (ls.take (k + 1)) = _ from funext HM.out]; exact hN1.turned htn hset⟩
        case measure => simp [intOf]; omega
    · have hE := Fld.take_whole ls k (by have := HN.out; omega)
      obtain rfl : k = n := by omega
      rw [hE] at hN
      clear hE
      go_wp2_with fail
      go_ret
      exact ⟨_, _, rfl, hN⟩

set_option maxHeartbeats 1600000 in
set_option maxRecDepth 100000 in
theorem among1_c (W : World) (f : Fld.F) (b g n : Nat) (mem : List UInt8 → Bool) (w : World) (hN : NamesAt W w b g n mem) (h0 : f.1.length ≤ 1000000) :
    Calls Tryz.prog 97 #[fval f, .pointer (some ⟨g, 0, none⟩)] w fun e w' => e = .returned (.bool (mem (Oct.lower f.1))) ∧ Below w.heap.size w w' := by
  obtain ⟨nm, v⟩ := f
  have h0' : nm.length ≤ 1000000 := h0
  have z : (str nm).size ≤ 9223372036854775807 := by rw [str_size]; omega
  have cL := fun w => Lower_big (str nm) w z
  rw [str_list] at cL
  have z2 : (str (Oct.lower nm)).size ≤ 9223372036854775807 := by rw [lower_size]; omega
  have HM : Hid (mem (Oct.lower nm) = mem (str (Oct.lower nm)).data.toList) := by rw [str_list]; exact Lib.hid rfl
  have hv := hN.cell
  have hn1 := hN.later ((Below.refl _ w).alloc (Nat.le_refl _) (.cells #[.string (str nm), .string (str v)] 65))
  have hv1 := hn1.cell
  have hv1' := fun o => (hn1.later ((Below.refl _ (w.alloc (.cells #[.string (str nm), .string (str v)] 65))).alloc (Nat.le_refl _) o)).cell
  unfold fval
  generalize str nm = x at *
  generalize str v = x' at *
  generalize str (Oct.lower nm) = y at *
  have hb0 : Below w.heap.size w (w.alloc (.cells #[.string x, .string x'] 65)) := (Below.refl _ w).alloc (Nat.le_refl _) _
  have hal : ∀ w1 w2 : World, Below w1.heap.size w1 w2 → ∀ o, Below w1.heap.size w1 (w2.alloc o) := fun w1 w2 h o => h.alloc h.size o
  clear z h0 h0'
  go_enter Tryz.func97, Tryz.ntmps97
  go_wp2_with fail
  go_region_with (go_at_call 75; refine (cL _).mono ?_; rintro e w1 ⟨rfl, hb1⟩; have hb2 : Below (w.alloc (.cells #[.string x, .string x'] 65)).heap.size (w.alloc (.cells #[.string x, .string x'] 65)) w1 := (by first | exact undrew hb1 | exact ((Below.refl _ (w.alloc (.cells #[.string x, .string x'] 65))).alloc (Nat.le_refl _) _).trans ((undrew hb1).mono (by simp))); have hN2 := hn1.later hb2; have hv2 := hN2.cell; have hlk := hN2.set.look y z2; have hN3 := fun o => hn1.later (hal _ _ hb2 o); have hv3 := fun o => (hN3 o).cell; have hlk3 := fun o => (hN3 o).set.look y z2)
  all_goals
    go_wp2_with fail
    go_ret
    exact ⟨ret_bool HM.out.symm, by first | exact hb0.trans (hb2.mono hb0.size) | exact hb0.trans ((hal _ _ hb2 _).mono hb0.size)⟩

end Go.Proofs.YtlbjjeonchcgbaaGreatDoor

namespace Go.Proofs.YtlbjjeonchcgbaaGreatDoor
open Go.RowKit

/-- All blocks but rows of the type e lie as they did. -/
def Kept (e : TypeId) (w w' : World) : Prop := ∀ (k : Nat) (o : Obj), w.heap[k]? = some o → (∀ (cs : Array Value) (fz : Nat × Nat), o ≠ Obj.cells cs e fz) → w'.heap[k]? = some o
theorem kept_append {e : TypeId} {w w' : World} {o : Obj} {base s n : Nat} {v : Value} {xs : List Value} (hg : (w.alloc o).grownBy w' v.ownBlock) (hr : (w.alloc o).ownsRow base e s v n xs) : Kept e w w' := by
  intro k b hk hb
  have hk1 : (w.alloc o).heap[k]? = some b := by rw [Below.heap_alloc _ _ _ (lt_of_block hk)]; exact hk
  refine (hg.block k (lt_of_block hk1) (fun he => ?_)).trans hk1
  rcases hr.2 with ⟨hv, _⟩ | ⟨g, cap, cur, hv, _, hh, _⟩
  · rw [hv] at he; simp [Value.ownBlock] at he
  · rw [hv] at he
    have e' : k = g := by simpa [Value.ownBlock] using he
    subst e'
    rw [hh] at hk1
    exact hb _ _ (Option.some.inj hk1).symm
theorem NamesAt.kept {W w w' : World} {b g n : Nat} {mem : List UInt8 → Bool} (h : NamesAt W w b g n mem) {e : TypeId} (hk : Kept e w w') (he : 105 ≠ e) (hb : Below W.heap.size W w') : NamesAt W w' b g n mem := by
  refine ⟨hk _ _ h.var (fun cs fz hc => by injection hc with _ h2 _; exact he h2), h.set.later ?_, h.ne, h.bb, h.bg, hb⟩
  obtain ⟨D, ⟨es, clock, h1, _⟩, _⟩ := h.set
  rw [h1]
  exact hk _ _ h1 (fun cs fz hc => by cases hc)
theorem NamesAt.from_ {W W1 w : World} {b g n : Nat} {mem : List UInt8 → Bool} (h : NamesAt W1 w b g n mem) (hb : Below W.heap.size W W1) : NamesAt W w b g n mem :=
  ⟨h.var, h.set, h.ne, Nat.le_trans hb.size h.bb, Nat.le_trans hb.size h.bg, hb.trans (h.below.mono hb.size)⟩

/-- 'append(values, s)', with a word on the other blocks. -/
theorem appS2 {ops : Array Oper} {rest : List Oper} {o : Oper} {a : Act} {Q : Exit → Act → World → Prop} {W w : World} {v : Value} {ls : List (List UInt8)} (h : SBuf W w v ls) (l : List UInt8) (hlen : ls.length ≤ 100000000000)
    (hgd : o.guard = none) (s x : Operand) (ho : o.op = .call { callee := .builtin .append, args := #[s, x], argTypes := #[67, 67] })
    (t : ByteArray) (ht : t = str l) (hs : a.eval s = v) (hx : a.eval x = .slice (some ⟨w.heap.size, 0, none⟩) 1 1)
    (hK : ∀ v' w', SBuf W w' v' (ls ++ [l]) → Kept 9 w w' → wpList Tryz.prog ops Q rest (a.put o.dst v') w') : wpList Tryz.prog ops Q (o :: rest) a (w.alloc (.cells #[.string t] 9)) := by
  obtain ⟨i0, hi, hz0, hz1, hz2⟩ := info_parts strs_info
  have hA := h.after ((Below.refl _ w).alloc (Nat.le_refl _) (.cells #[.string t] 9))
  refine wpList_append_own _ hgd s x _ ho W.heap.size 9 i0 (.string ⟨#[]⟩) 1 16 Tryz.underlying67 hi hz0 hz1 hz2 rfl (by decide) v ls.length (strCells ls) hs hA.1 ⟨w.heap.size, 0, none⟩ 1 1 [.string t] hx rfl ?_ ?_ (by unfold maxLen; omega) (by omega) hA.2.size (fun v' w' h1 h2 h3 => ?_)
  · intro j u hj
    match j, hj with
    | 0, hj =>
      simp at hj; subst hj
      show (w.alloc (.cells #[.string t] 9)).cell? ⟨w.heap.size, 0 + 0, none⟩ = _
      rw [World.cell?_alloc_at _ _ _ _ rfl]; rfl
  · intro u hu; simp at hu; subst hu; rfl
  · refine hK v' w' ⟨?_, hA.2.grown h2 hA.2.size (fun k hk => (hA.1.lt k hk).1)⟩ (kept_append h2 hA.1)
    rw [strCells_snoc, ← ht]
    simpa using h1
/-- 'append(fs, f)', with a word on the other blocks. -/
theorem appF2 {ops : Array Oper} {rest : List Oper} {o : Oper} {a : Act} {Q : Exit → Act → World → Prop} {W w : World} {v : Value} {fs : List Fld.F} (h : FBuf W w v fs) (f : Fld.F) (hlen : fs.length ≤ 1000000000)
    (hgd : o.guard = none) (s x : Operand) (ho : o.op = .call { callee := .builtin .append, args := #[s, x], argTypes := #[26, 26] })
    (s0 s1 : ByteArray) (h0 : s0 = str f.1) (h1 : s1 = str f.2) (hs : a.eval s = v) (hx : a.eval x = .slice (some ⟨w.heap.size, 0, none⟩) 1 1)
    (hK : ∀ v' w', FBuf W w' v' (fs ++ [f]) → Kept 65 w w' → wpList Tryz.prog ops Q rest (a.put o.dst v') w') : wpList Tryz.prog ops Q (o :: rest) a (w.alloc (.cells #[.string s0, .string s1] 65)) := by
  subst h0 h1
  obtain ⟨i0, hi, hz0, hz1, hz2⟩ := info_parts fields_info
  have hA := h.after ((Below.refl _ w).alloc (Nat.le_refl _) (.cells #[.string (str f.1), .string (str f.2)] 65))
  refine wpList_append_own _ hgd s x _ ho W.heap.size 65 i0 _ 2 32 Tryz.underlying26 hi hz0 hz1 hz2 rfl (by decide) v fs.length (fieldCells fs) hs hA.1 ⟨w.heap.size, 0, none⟩ 1 1 (fieldCells [f]) hx rfl ?_ ?_ (by unfold maxLen; omega) (by omega) hA.2.size (fun v' w' h1 h2 _ => ?_)
  · intro j u hj
    match j, hj with
    | 0, hj =>
      simp [fieldCells] at hj; subst hj
      show (w.alloc (.cells #[.string (str f.1), .string (str f.2)] 65)).cell? ⟨w.heap.size, 0 + 0, none⟩ = _
      rw [World.cell?_alloc_at _ _ _ _ rfl]; rfl
    | 1, hj =>
      simp [fieldCells] at hj; subst hj
      show (w.alloc (.cells #[.string (str f.1), .string (str f.2)] 65)).cell? ⟨w.heap.size, 0 + 1, none⟩ = _
      rw [World.cell?_alloc_at _ _ _ _ rfl]; rfl
    | j + 2, hj => simp [fieldCells] at hj
  · intro u hu; simp [fieldCells] at hu; rcases hu with rfl | rfl <;> rfl
  · refine hK v' w' ⟨?_, hA.2.grown h2 hA.2.size (fun k hk => (hA.1.lt k hk).1)⟩ (kept_append h2 hA.1)
    rw [fieldCells_append, List.length_append]; exact h1

theorem sin_one (w : World) (t : ByteArray) (l : List UInt8) (ht : t = str l) : SIn (w.alloc (.cells #[.string t] 9)) (.slice (some ⟨w.heap.size, 0, none⟩) 1 1) [l] := by
  subst ht
  refine ⟨some ⟨w.heap.size, 0, none⟩, 1, rfl, .inr ⟨w.heap.size, 0, rfl, by simp, fun j hj => ?_⟩⟩
  obtain rfl : j = 0 := by simpa using hj
  show (w.alloc (.cells #[.string (str l)] 9)).cell? ⟨w.heap.size, 0 + 0, none⟩ = _
  rw [World.cell?_alloc_at _ _ _ _ rfl]; rfl
theorem inSet_one (n l : List UInt8) : inSet [n] l = (l == Oct.lower n) := by
  unfold inSet; rw [List.map_cons, List.contains_cons]; simp

set_option maxHeartbeats 1600000 in
set_option maxRecDepth 100000 in
theorem Get_w (va : Value) (xs : List Fld.F) (nm : List UInt8) (w : World) (ha : FIn w va xs) (hs : Small xs) (hn1 : nm.length ≤ 9223372036854775807) :
    Calls Tryz.prog 60 #[va, .string (str nm)] w fun e w' => ∃ v, e = .returned v ∧ SBuf w w' v (Fld.get xs nm) := by
  have hb0 : Below w.heap.size w (w.alloc (.cells #[.string (str nm)] 9)) := (Below.refl _ w).alloc (Nat.le_refl _) _
  have cA := among_w _ [nm] _ (sin_one w (str nm) nm rfl) (by show 1 ≤ 1000000; omega) (fun l hl => by simp at hl; subst hl; exact hn1)
  obtain ⟨mem, hmem⟩ : ∃ mem, mem = inSet [nm] := ⟨_, rfl⟩
  rw [← hmem] at cA
  have HM : Hid (∀ f, mem (Oct.lower f.1) = Fld.named nm f) := Lib.hid (fun f => by rw [hmem, inSet_one]; rfl)
  generalize str nm = sn at *
  obtain ⟨aa, ca, rfl, ha⟩ := ha
  obtain ⟨n, hn⟩ : ∃ n, n = xs.length := ⟨_, rfl⟩
  rw [← hn]
  have hn9 : n ≤ 1000000 := by have := hs.1; omega
  have HN := Lib.hid hn
  have HS := Lib.hid hs
  by_cases hz : n = 0
  · subst hz
    have hx : xs = [] := List.eq_nil_of_length_eq_zero hn.symm
    have HX := Lib.hid hx
    clear hn ha hs hx hmem hn1
    go_enter Tryz.func60, Tryz.ntmps60
    go_wp2_with (go_at_call 81; refine cA.mono ?_; rintro e w1 ⟨b, g, rfl, hN⟩)
    refine wp_loop_rounds 1 ?_
    rw [rounds_succ]
    go_wp2_with fail
    go_ret
    exact ⟨_, rfl, by rw [HX.out]; exact ⟨World.ownsRow_nil _ _ _ _, (hN.from_ hb0).below⟩⟩
  obtain ⟨ba, oa, rfl, hC⟩ := Cells.of hn hz ha
  have HC := Lib.hid hC
  clear ha hn hz hC hs hmem hn1
  go_enter Tryz.func60, Tryz.ntmps60
  go_wp2_with (go_at_call 81; refine cA.mono ?_; rintro e w1 ⟨b, g, rfl, hN⟩)
  have hN0 := hN.from_ hb0
  clear cA hN hb0
  go_loopw [5, 8, 14] (fun v _ i wr => ∃ k : Nat, k ≤ n ∧ i = .int .i64 k ∧ SBuf w wr v (Fld.get (xs.take k) nm) ∧ NamesAt w wr b g 1 mem) (fun _ _ i _ => n - (intOf i).toNat)
  case atStart => exact ⟨0, by omega, rfl, ⟨World.ownsRow_nil _ _ _ _, hN0.below⟩, hN0⟩
  case round =>
    obtain ⟨k, hk, rfl, hB, hN⟩ := hrel
    clear hN0
    by_cases hlt : k < n
    · have ka : k < xs.length := by have := HN.out; omega
      obtain ⟨c1, c2⟩ := HC.out.at_ hB.2 k hlt ka
      have z := HS.out.at_ k ka
      have hN1 := hN.later ((Below.refl _ wr).alloc (Nat.le_refl _) (.cells #[.string (str xs[k].1), .string (str xs[k].2)] 65))
      have cM := among1_c w xs[k] b g 1 mem _ hN1 z.1
      rw [HM.out xs[k]] at cM
      unfold fval at cM
      have cC := fun w => Clone_s (str xs[k].2) w (by rw [str_size]; exact z.2)
      have hgl : (Fld.get (xs.take k) nm).length ≤ 100000000000 := by
        have := Fld.get_length (xs.take k) nm; rw [List.length_take] at this; omega
      obtain ⟨x, hx⟩ : ∃ x, x = str xs[k].1 := ⟨_, rfl⟩
      obtain ⟨y, hy⟩ : ∃ y, y = str xs[k].2 := ⟨_, rfl⟩
      rw [← hx] at c1 cM hN1
      rw [← hy] at c2 cM hN1 cC
      have HY := Lib.hid hy
      clear hx hy z
      by_cases hp : Fld.named nm xs[k] = true
      · have HG := Lib.hid (Fld.get_yes ka hp)
        rw [hp] at cM
        clear hp
        go_wp2_with fail
        refine cM.mono ?_
        rintro e w2 ⟨rfl, hb2⟩
        obtain ⟨f0, f1, hb3⟩ := fcell hb2
        go_wp2_with fail
        refine (cC _).mono ?_
        rintro e w3 ⟨rfl, hb4⟩
        have hb5 := hb3.trans (hb4.mono hb3.size)
        have hB2 := hB.after hb5
        have hN2 := hN.later hb5
        go_wp2_with (at_builtin; refine appS2 hB2 xs[k].2 hgl rfl _ _ rfl y HY.out rfl rfl ?_; intro v' w4 hB4 hK4)
        go_roundw
        case rel => exact ⟨k + 1, by omega, by go_num, by rw [HG.out]; exact hB4, hN2.kept hK4 (by decide) hB4.2⟩
        case measure => simp [intOf]; omega
      · have hp' : Fld.named nm xs[k] = false := by simpa using hp
        have HG := Lib.hid (Fld.get_no ka hp')
        rw [hp'] at cM
        clear hp hp'
        go_wp2_with fail
        refine cM.mono ?_
        rintro e w2 ⟨rfl, hb2⟩
        obtain ⟨f0, f1, hb3⟩ := fcell hb2
        go_wp2_with fail
        go_roundw
        case rel => exact ⟨k + 1, by omega, by go_num, by rw [HG.out]; exact hB.after hb3, hN.later hb3⟩
        case measure => simp [intOf]; omega
    · have hE := Fld.take_whole xs k (by have := HN.out; omega)
      rw [hE] at hB
      clear hE
      go_wp2_with fail
      go_ret
      exact ⟨_, rfl, hB⟩

end Go.Proofs.YtlbjjeonchcgbaaGreatDoor

namespace Go.Proofs.YtlbjjeonchcgbaaGreatDoor
open Go.RowKit

/-- The library's variable of the longest separator holds some number. -/
def MaxOk (w : World) : Prop := ∃ m, w.cell? ⟨1, 0, none⟩ = some (.int .i64 m)
theorem MaxOk.later {w w' : World} (h : MaxOk w) (hb : Below w.heap.size w w') : MaxOk w' := by
  obtain ⟨m, h⟩ := h
  exact ⟨m, (hb.cell (p := ⟨1, 0, none⟩) (World.block_lt_of_cell? w _ h)).trans h⟩
/-- Block g holds the octets l, from its start. -/
def Oc (w : World) (g : Nat) (l : List UInt8) : Prop := g < w.heap.size ∧ ∀ j (hj : j < l.length), w.cell? ⟨g, j, none⟩ = some (.int .u8 (l[j].toNat : Int))
theorem Oc.later {w w' : World} {g : Nat} {l : List UInt8} (h : Oc w g l) (hb : Below w.heap.size w w') : Oc w' g l :=
  ⟨Nat.lt_of_lt_of_le h.1 hb.size, fun j hj => (hb.cell (p := ⟨g, j, none⟩) h.1).trans (h.2 j hj)⟩
def ints (l : List UInt8) : List Int := l.map fun c => (c.toNat : Int)
theorem ints_bytes (l : List UInt8) : Lib.bytesOf (ints l) = l := by
  unfold Lib.bytesOf ints; rw [List.map_map]; conv => rhs; rw [← List.map_id l]
  apply List.map_congr_left; intro c _; simp
theorem ints_range (l : List UInt8) : ∀ x ∈ ints l, 0 ≤ x ∧ x < 256 := by
  intro x hx
  obtain ⟨c, _, rfl⟩ := List.mem_map.1 hx
  have := c.toNat_lt; omega
/-- bytes.Index of two octets. -/
theorem index_w (w : World) (g o n c : Nat) (l : List UInt8) (hl : l.length = n) (hn : n ≤ 1000000) (hnc : n ≤ c) (hc : ∀ j (hj : j < l.length), w.cell? ⟨g, o + j, none⟩ = some (.int .u8 (l[j].toNat : Int))) (b : Nat) (h0 : w.cell? ⟨b, 0, none⟩ = some (.int .u8 13)) (h1 : w.cell? ⟨b, 1, none⟩ = some (.int .u8 10)) (hm : MaxOk w) :
    Calls Tryz.prog 134 #[.slice (some ⟨g, o, none⟩) n c, .slice (some ⟨b, 0, none⟩) 2 2] w fun e w' => e = .returned (.int .i64 (Lib.index l [13, 10])) ∧ ∃ q, w' = w.drewN q := by
  obtain ⟨m, hm⟩ := hm
  have h := Tryz.bytes_Index_at ⟨g, o, none⟩ ⟨b, 0, none⟩ n c 2 2 (ints l) (ints [13, 10]) m w (by unfold ints; rw [List.length_map]; exact hl) rfl (ints_range l) (ints_range _)
    (fun i hi => by
      rw [Addr.add_lit, hc i (by omega)]
      unfold ints
      rw [List.getD_eq_getElem?_getD, List.getElem?_map, List.getElem?_eq_getElem (by omega)]; rfl)
    (fun i hi => by
      rw [Addr.add_lit]
      match i, hi with
      | 0, _ => exact h0
      | 1, _ => exact h1) hnc (by omega) (by decide) hm
  rw [ints_bytes, ints_bytes] at h
  exact h

theorem Oc.part {w : World} {g : Nat} {l : List UInt8} (h : Oc w g l) (n h6 : Nat) : ∀ j (hj : j < ((l.take h6).drop n).length), w.cell? ⟨g, n + j, none⟩ = some (.int .u8 (((l.take h6).drop n)[j].toNat : Int)) := by
  intro j hj
  rw [List.length_drop, List.length_take] at hj
  rw [h.2 (n + j) (by omega)]
  simp
/-- The separator's row, behind its conversion. -/
theorem crlf_block (w : World) : ∃ W1, (convert 22 22 (.slice (some ⟨w.heap.size, 0, none⟩) 2 2)).run Tryz.prog (w.alloc (.cells #[.int .u8 13, .int .u8 10] 5)) = .ok (.slice (some ⟨w.heap.size, 0, none⟩) 2 2) W1 ∧
    W1.cell? ⟨w.heap.size, 0, none⟩ = some (.int .u8 13) ∧ W1.cell? ⟨w.heap.size, 1, none⟩ = some (.int .u8 10) ∧ Below w.heap.size w W1 := by
  refine ⟨_, Lib.run_convert_bytes_const w _ _ _ 2 2 Tryz.underlying22 Tryz.underlying5, ?_, ?_, (Below.refl _ w).alloc (Nat.le_refl _) _⟩
  · rw [World.cell?_alloc_mark]; rfl
  · rw [World.cell?_alloc_mark]; rfl

set_option maxHeartbeats 1600000 in
set_option maxRecDepth 100000 in
/-- A line is there. -/
theorem lineAt_yes (g n c : Nat) (l : List UInt8) (w : World) (hl : l.length ≤ 1000000) (hlc : l.length ≤ c) (hc9 : c ≤ 9223372036854775807) (h : Oc w g l) (hm : MaxOk w) (hn : n ≤ l.length) (hn6 : n ≤ 65536) (i : Nat) (hi : Lib.index ((l.take 65536).drop n) [13, 10] = i) (hn2 : n + i + 2 ≤ 65536) (hn3 : n + i + 2 ≤ l.length) :
    Calls Tryz.prog 110 #[.slice (some ⟨g, 0, none⟩) l.length c, .int .i64 n] w fun e w' => e = .returned (.tuple #[.string (str ((l.take (n + i)).drop n)), .int .i64 0]) ∧ Below w.heap.size w w' := by
  obtain ⟨W1, hcs, cb0, cb1, hb0⟩ := crlf_block w
  have hO := h.later hb0
  have hM := hm.later hb0
  have hI := index_w W1 g n ((l.take 65536).drop n).length (c - n) ((l.take 65536).drop n) rfl (by rw [List.length_drop, List.length_take]; omega) (by rw [List.length_drop, List.length_take]; omega) (hO.part n 65536) w.heap.size cb0 cb1 hM
  rw [hi, List.length_drop, List.length_take] at hI
  have hcv : ∀ q, (convert 22 9 (.slice (some ⟨g, n, none⟩) i (c - n))).run Tryz.prog (W1.drewN q) = .ok (.string (str ((l.take (n + i)).drop n))) (W1.drewN q) := fun q => by
    have hlen : ((l.take (n + i)).drop n).length = i := by rw [List.length_drop, List.length_take]; omega
    have := run_convert_bytes_back (P := Tryz.prog) (W1.drewN q) 22 9 5 ⟨g, n, none⟩ (c - n) ((l.take (n + i)).drop n) Tryz.underlying22 Tryz.underlying5 Tryz.underlying9 (fun j hj => by
      rw [Addr.add_lit]; exact hO.part n (n + i) j hj)
    rw [hlen] at this
    exact this
  generalize str ((l.take (n + i)).drop n) = s at *
  obtain ⟨L, hL⟩ : ∃ L, L = l.length := ⟨_, rfl⟩
  rw [← hL] at hl hlc hn hn3 hI ⊢
  obtain ⟨M, hM1, hmin⟩ : ∃ M : Nat, M = min 65536 L ∧ min (L : Int) 65536 = (M : Int) := ⟨min 65536 L, rfl, by omega⟩
  rw [← hM1] at hI
  have hM2 : n + i + 2 ≤ M := by omega
  have hM3 : M ≤ c := by omega
  have hM4 : M ≤ 65536 := by omega
  clear h hO hM cb0 cb1 hi hm hL hM1
  go_enter Tryz.func110, Tryz.ntmps110
  go_wp2_with fail
  refine hI.mono ?_
  rintro e w1 ⟨rfl, q, rfl⟩
  go_wp2_with fail
  go_ret2
  exact ⟨rfl, hb0.trans ((bdrewN _ _).mono hb0.size)⟩

set_option maxHeartbeats 1600000 in
set_option maxRecDepth 100000 in
/-- There is none. -/
theorem lineAt_no (g n c : Nat) (l : List UInt8) (w : World) (hl : l.length ≤ 1000000) (hlc : l.length ≤ c) (_hc9 : c ≤ 9223372036854775807) (h : Oc w g l) (hm : MaxOk w) (hn : n ≤ l.length) (hn6 : n ≤ 65536) (hi : Lib.index ((l.take 65536).drop n) [13, 10] < 0) :
    Calls Tryz.prog 110 #[.slice (some ⟨g, 0, none⟩) l.length c, .int .i64 n] w fun e w' => e = .returned (.tuple #[.string ⟨#[]⟩, .int .i64 (if l.length > 65536 then 12 else 11)]) ∧ Below w.heap.size w w' := by
  obtain ⟨W1, hcs, cb0, cb1, hb0⟩ := crlf_block w
  have hO := h.later hb0
  have hM := hm.later hb0
  obtain ⟨L, hL⟩ : ∃ L, L = l.length := ⟨_, rfl⟩
  obtain ⟨M, hM1, hmin⟩ : ∃ M : Nat, M = min 65536 L ∧ min (L : Int) 65536 = (M : Int) := ⟨min 65536 L, rfl, by omega⟩
  have hM3 : M ≤ c := by omega
  have hM4 : M ≤ 65536 := by omega
  have hM5 : n ≤ M := by omega
  have hlen : ((l.take 65536).drop n).length = M - n := by rw [List.length_drop, List.length_take, ← hL, hM1]
  obtain ⟨a, ha, hI⟩ : ∃ a : Nat, (if c = n then a = 0 else a = n) ∧ Calls Tryz.prog 134 #[.slice (some ⟨g, a, none⟩) (M - n) (c - n), .slice (some ⟨w.heap.size, 0, none⟩) 2 2] W1 fun e w' => e = .returned (.int .i64 (Lib.index ((l.take 65536).drop n) [13, 10])) ∧ ∃ q, w' = W1.drewN q := by
    by_cases hcn : c = n
    · refine ⟨0, by rw [if_pos hcn], ?_⟩
      exact index_w W1 g 0 (M - n) (c - n) ((l.take 65536).drop n) hlen (by omega) (by omega) (fun j hj => by omega) w.heap.size cb0 cb1 hM
    · refine ⟨n, by rw [if_neg hcn], ?_⟩
      exact index_w W1 g n (M - n) (c - n) ((l.take 65536).drop n) hlen (by omega) (by omega) (hO.part n 65536) w.heap.size cb0 cb1 hM
  obtain ⟨r, hr⟩ : ∃ r : Int, r = Lib.index ((l.take 65536).drop n) [13, 10] := ⟨_, rfl⟩
  have hr9 : -9223372036854775808 ≤ r := by
    have := Lib.index_ge ((l.take 65536).drop n) [13, 10]; omega
  rw [← hr] at hI hi
  rw [← hL] at hl hlc hn ⊢
  clear h hO hM cb0 cb1 hm hL hM1 hlen hr
  by_cases hcn : c = n
  · rw [if_pos hcn] at ha
    subst ha
    by_cases h6 : 65536 < L
    · omega
    · rw [if_neg (by omega)]
      have b6 : ¬ (65536 : Int) < (L : Int) := by omega
      subst hcn
      have e0 : c - c = 0 := by omega
      have e1 : M - c = 0 := by omega
      rw [e0, e1] at hI
      go_enter Tryz.func110, Tryz.ntmps110
      go_wp2_with fail
      refine hI.mono ?_
      rintro e w1 ⟨rfl, q, rfl⟩
      go_wp2_with fail
      go_ret2
      exact ⟨rfl, hb0.trans ((bdrewN _ _).mono hb0.size)⟩
  · rw [if_neg hcn] at ha
    subst ha
    by_cases h6 : 65536 < L
    · rw [if_pos (by omega)]
      have b6 : (65536 : Int) < (L : Int) := by omega
      go_enter Tryz.func110, Tryz.ntmps110
      go_wp2_with fail
      refine hI.mono ?_
      rintro e w1 ⟨rfl, q, rfl⟩
      go_wp2_with fail
      go_ret2
      exact ⟨rfl, hb0.trans ((bdrewN _ _).mono hb0.size)⟩
    · rw [if_neg (by omega)]
      have b6 : ¬ (65536 : Int) < (L : Int) := by omega
      go_enter Tryz.func110, Tryz.ntmps110
      go_wp2_with fail
      refine hI.mono ?_
      rintro e w1 ⟨rfl, q, rfl⟩
      go_wp2_with fail
      go_ret2
      exact ⟨rfl, hb0.trans ((bdrewN _ _).mono hb0.size)⟩
end Go.Proofs.YtlbjjeonchcgbaaGreatDoor

namespace Go.Proofs.YtlbjjeonchcgbaaGreatDoor
open Go.RowKit

theorem cut_colon (l : List UInt8) : Lib.cut l [58] = if Fld.colon l = l.length then (l, [], false) else (l.take (Fld.colon l), l.drop (Fld.colon l + 1), true) := by
  unfold Lib.cut
  rw [Lib.index_one, Fld.colon_index]
  by_cases h : Fld.colon l = l.length
  · rw [if_pos h, if_neg (by decide)]; simp [h]
  · rw [if_neg h, if_pos (by omega), if_neg h]; simp

set_option maxHeartbeats 1600000 in
set_option maxRecDepth 100000 in
theorem read_w (l : List UInt8) (w : World) (hl : l.length ≤ 1000000) (hm : MaxOk w) :
    Calls Tryz.prog 111 #[.string (str l)] w fun e w' => e = .returned (fval (Fld.readLine l)) ∧ Below w.heap.size w w' := by
  obtain ⟨W1, hW1⟩ : ∃ W1, W1 = w.alloc (.cells #[.string ⟨#[]⟩, .string ⟨#[]⟩] 65) := ⟨_, rfl⟩
  have hb1 : Below w.heap.size w W1 := by rw [hW1]; exact (Below.refl _ w).alloc (Nat.le_refl _) _
  have hg : W1.heap[w.heap.size]? = some (.cells #[.string ⟨#[]⟩, .string ⟨#[]⟩] 65 (0, 0)) := by rw [hW1]; exact heap_alloc_new w _
  obtain ⟨m, hmc⟩ := hm.later hb1
  have cC := Tryz.strings_Cut (str l) ⟨#[58]⟩ m W1 (by rw [str_size]; omega) hmc
  rw [str_list, show (⟨#[58]⟩ : ByteArray).data.toList = [58] from rfl, cut_colon] at cC
  by_cases hc : Fld.colon l = l.length
  · rw [if_pos hc] at cC
    have HR : Hid (fval (Fld.readLine l) = .agg #[.string ⟨#[]⟩, .string ⟨#[]⟩]) := by unfold Fld.readLine; rw [if_pos hc]; exact Lib.hid rfl
    generalize str l = s at cC
    obtain ⟨q0, q1, q2, q3⟩ := blk2 hg
    clear hc hmc hm
    go_enter Tryz.func111, Tryz.ntmps111
    go_upto_region 1 with fail
    rw [← hW1]
    clear hW1
    go_wp2_with fail
    refine cC.mono ?_
    rintro e w2 ⟨rfl, q, rfl⟩
    go_wp2_with fail
    (try simp only [Exit.inBlock, Exit.then])
    refine bodyPost_ret (v := .agg #[.string ⟨#[]⟩, .string ⟨#[]⟩]) (results_cell_row rfl _ _ w.heap.size _ _ (0, 0) _ rfl (set2 (w := W1.drewN q) hg _ _) Tryz.underlying65 rfl (by kernel_rfl)) rfl ?_
    exact ⟨by rw [HR.out], ((hb1.trans ((bdrewN W1 q).mono hb1.size)).setCell (Nat.le_refl _) _).setCell (Nat.le_refl _) _⟩
  · rw [if_neg hc] at cC
    have hcl := Fld.colon_le l
    have HR : Hid (fval (Fld.readLine l) = .agg #[.string (str (l.take (Fld.colon l))), .string (str (Oct.trim (l.drop (Fld.colon l + 1))))]) := by unfold Fld.readLine; rw [if_neg hc]; exact Lib.hid rfl
    have c0 := fun w => Clone_s (str (l.take (Fld.colon l))) w (by rw [str_size, List.length_take]; omega)
    have c1 := fun w => Trim_s (str (l.drop (Fld.colon l + 1))) w (by rw [str_size, List.length_drop]; omega)
    rw [str_list] at c1
    have cC' : Calls Tryz.prog 135 #[.string (str l), .string ⟨#[58]⟩] W1 fun e w' => e = .returned (.tuple #[.string (str (l.take (Fld.colon l))), .string (str (l.drop (Fld.colon l + 1))), .bool true]) ∧ ∃ n, w' = W1.drewN n := cC
    generalize str l = s at cC'
    generalize str (l.take (Fld.colon l)) = s0 at *
    generalize str (l.drop (Fld.colon l + 1)) = s1 at *
    generalize str (Oct.trim (l.drop (Fld.colon l + 1))) = s2 at *
    clear hc hmc hm cC hcl
    go_enter Tryz.func111, Tryz.ntmps111
    go_upto_region 1 with fail
    rw [← hW1]
    clear hW1
    go_wp2_with fail
    refine cC'.mono ?_
    rintro e w2 ⟨rfl, q, rfl⟩
    go_wp2_with fail
    refine (c0 _).mono ?_
    rintro e w3 ⟨rfl, hb3⟩
    go_wp2_with fail
    refine (c1 _).mono ?_
    rintro e w4 ⟨rfl, hb4⟩
    have hb5 : Below W1.heap.size W1 w4 := (bdrewN W1 q).trans (hb3.trans (hb4.mono hb3.size))
    have hg4 := (hb5.block _ (lt_of_block hg)).trans hg
    obtain ⟨q0, q1, q2, q3⟩ := blk2 hg4
    clear hb3 hb4
    go_wp2_with fail
    (try simp only [Exit.inBlock, Exit.then])
    refine bodyPost_ret (v := .agg #[.string s0, .string s2]) (results_cell_row rfl _ _ w.heap.size _ _ (0, 0) _ rfl (set2 (w := w4) hg4 _ _) Tryz.underlying65 rfl (by kernel_rfl)) rfl ?_
    exact ⟨by rw [HR.out], ((hb1.trans (hb5.mono hb1.size)).setCell (Nat.le_refl _) _).setCell (Nat.le_refl _) _⟩
end Go.Proofs.YtlbjjeonchcgbaaGreatDoor

namespace Go.Proofs.YtlbjjeonchcgbaaGreatDoor
open Go.RowKit

theorem readLine_small (l : List UInt8) : (Fld.readLine l).1.length ≤ l.length ∧ (Fld.readLine l).2.length ≤ l.length := by
  unfold Fld.readLine
  split
  · exact ⟨Nat.zero_le _, Nat.zero_le _⟩
  · unfold Fld.cutField
    refine ⟨by simp only [List.length_take]; omega, ?_⟩
    have := Oct.trim_len (l.drop (Fld.colon l + 1))
    rw [List.length_drop] at this
    show (Oct.trim _).length ≤ _
    omega

set_option maxHeartbeats 3200000 in
set_option maxRecDepth 100000 in
theorem Parse_w (g c : Nat) (l : List UInt8) (w : World) (hl : l.length ≤ 1000000) (hlc : l.length ≤ c) (hc9 : c ≤ 9223372036854775807) (h : Oc w g l) (hm : MaxOk w) :
    Calls Tryz.prog 92 #[.slice (some ⟨g, 0, none⟩) l.length c] w fun e w' => ∃ v, e = .returned (.tuple #[v, .int .i64 (Fld.parse l).2.1, .int .i64 (Fld.parse l).2.2]) ∧ FBuf w w' v (Fld.parse l).1 := by
  obtain ⟨L, hL⟩ : ∃ L, L = l.length := ⟨_, rfl⟩
  have cY := fun (n : Nat) (w1 : World) (hb : Below w.heap.size w w1) => lineAt_yes g n c l w1 hl hlc hc9 (h.later hb) (hm.later hb)
  have cN := fun (n : Nat) (w1 : World) (hb : Below w.heap.size w w1) => lineAt_no g n c l w1 hl hlc hc9 (h.later hb) (hm.later hb)
  rw [← hL] at cY cN ⊢
  have HL := Lib.hid hL
  have HM := Lib.hid hm
  have hL9 : L ≤ 1000000 := by omega
  clear h hm hL hl hlc hc9
  go_enter Tryz.func92, Tryz.ntmps92
  go_wp2_with fail
  go_loopw [5, 6] (fun v i wr => ∃ (n : Nat) (acc : List Fld.F), i = .int .i64 n ∧ Fld.At l n acc ∧ FBuf w wr v acc) (fun _ i _ => L - (intOf i).toNat)
  case atStart => exact ⟨0, [], rfl, Fld.At.start l, FBuf.nil w⟩
  case round =>
    obtain ⟨n, acc, rfl, hA, hB⟩ := hrel
    have hn1 : n ≤ L := by have := hA.1; have := HL.out; omega
    have hn2 : n ≤ 65536 := hA.2.1
    have hac : acc.length ≤ 128 := hA.2.2.1
    have HA := Lib.hid hA
    rcases (show Lib.index ((l.take 65536).drop n) [13, 10] < 0 ∨ 0 ≤ Lib.index ((l.take 65536).drop n) [13, 10] by omega) with hneg | hpos
    · have HP := Lib.hid (hA.none hneg)
      have hc := cN n wr hB.2 hn1 hn2 hneg
      have HN : Hid (Below w.heap.size w wr) := hB.2
      rw [← HL.out] at HP
      by_cases h6 : 65536 < L
      · rw [if_pos h6] at hc HP
        clear hA hneg h6
        go_wp2_with (go_at_call 110; refine hc.mono ?_; rintro e w1 ⟨rfl, hb1⟩)
        go_ret3
        exact ⟨_, by rw [HP.out]; rfl, by rw [HP.out]; exact FBuf.nil_of (HN.out.trans (hb1.mono HN.out.size))⟩
      · rw [if_neg h6] at hc HP
        clear hA hneg h6
        go_wp2_with (go_at_call 110; refine hc.mono ?_; rintro e w1 ⟨rfl, hb1⟩)
        go_ret3
        exact ⟨_, by rw [HP.out]; rfl, by rw [HP.out]; exact FBuf.nil_of (HN.out.trans (hb1.mono HN.out.size))⟩
    · obtain ⟨i, hi⟩ : ∃ i : Nat, Lib.index ((l.take 65536).drop n) [13, 10] = i := ⟨_, (Int.toNat_of_nonneg hpos).symm⟩
      obtain ⟨he, he1, he2⟩ := Fld.head_some hA.1 hi
      have hc := cY n wr hB.2 hn1 hn2 i hi he1 (by have := HL.out; omega)
      by_cases h0 : i = 0
      · subst h0
        have HP := Lib.hid (hA.last he he1)
        have e0 : str ((l.take (n + 0)).drop n) = ⟨#[]⟩ := by
          rw [Nat.add_zero, List.drop_of_length_le (by rw [List.length_take]; omega)]; rfl
        rw [e0] at hc
        clear hA hpos hi he he2 e0
        go_wp2_with (go_at_call 110; refine hc.mono ?_; rintro e w1 ⟨rfl, hb1⟩)
        go_ret3
        exact ⟨_, by rw [HP.out]; rfl, by rw [HP.out]; exact hB.after hb1⟩
      · obtain ⟨ln, hln⟩ : ∃ ln, ln = (l.take (n + i)).drop n := ⟨_, rfl⟩
        have hll : ln.length = i := by rw [hln, List.length_drop, List.length_take]; have := HL.out; omega
        rw [← hln] at hc
        have hi9 : i ≤ 1000000 := by omega
        have hnL : n + i + 2 ≤ L := by have := HL.out; omega
        have cR := fun w1 (hm : MaxOk w1) => read_w ln w1 (by omega) hm
        have zr := readLine_small ln
        have cF := fun w1 => right_s (Fld.readLine ln) w1 (by omega) (by omega)
        have hxe : (str ln).toList.isEmpty = false := by
          rw [str_toList]; cases h : ln with
          | nil => rw [h] at hll; simp at hll; omega
          | cons _ _ => rfl
        have hxn : ¬ (str ln).toList = [] := by
          rw [str_toList]; intro h; rw [h] at hll; simp at hll; omega
        have hxs : ((str ln).size : Int) = (i : Int) := by rw [str_size, hll]
        have HR0 : Hid (Fld.right (Fld.readLine ln) = false → Fld.parse l = ([], 0, 10)) := fun hr => hA.form he he1 (by omega) (by rw [← hln]; exact Fld.readLine_no hr)
        have HR1 : Hid (Fld.right (Fld.readLine ln) = true → acc.length ≥ 128 → Fld.parse l = ([], 0, 13)) := fun hr hm => hA.many he he1 (by omega) (f := Fld.readLine ln) (by rw [← hln]; exact Fld.readLine_yes hr) hm
        have HR2 : Hid (Fld.right (Fld.readLine ln) = true → acc.length < 128 → Fld.At l (n + i + 2) (acc ++ [Fld.readLine ln])) := fun hr hm => hA.next he he2 (by omega) he1 (by omega) (by rw [← hln]; exact Fld.readLine_yes hr) hm
        obtain ⟨f, hf⟩ : ∃ f, f = Fld.readLine ln := ⟨_, rfl⟩
        rw [← hf] at cR cF HR0 HR1 HR2
        generalize str ln = s at *
        obtain ⟨fx, hfx⟩ : ∃ x, x = str f.1 := ⟨_, rfl⟩
        obtain ⟨fy, hfy⟩ : ∃ y, y = str f.2 := ⟨_, rfl⟩
        unfold fval at cR cF
        rw [← hfx, ← hfy] at cR cF
        have HX := Lib.hid hfx
        have HY := Lib.hid hfy
        have HB : Hid (Below w.heap.size w wr) := hB.2
        clear hA hpos hi he he2 hln hll zr hf hfx hfy h0
        go_wp2_with (go_at_call 110; refine hc.mono ?_; rintro e w1 ⟨rfl, hb1⟩)
        have hm1 : MaxOk w1 := (HM.out.later HB.out).later hb1
        refine (cR w1 hm1).mono ?_
        rintro e w2 ⟨rfl, hb2⟩
        cases hr : Fld.right f with
        | false =>
          rw [hr] at cF
          have HP := Lib.hid (HR0.out hr)
          clear hr hm1
          go_wp2_with (go_at_call 86; refine (cF _).mono ?_; rintro e w3 ⟨rfl, hb3⟩)
          obtain ⟨_, _, hb4⟩ := fcell hb3
          go_ret3
          exact ⟨_, by rw [HP.out]; rfl, by rw [HP.out]; exact FBuf.nil_of ((HB.out.trans (hb1.mono HB.out.size)).trans ((hb2.trans (hb4.mono hb2.size)).mono (Nat.le_trans HB.out.size hb1.size)))⟩
        | true =>
          rw [hr] at cF
          by_cases h128 : acc.length = 128
          · have HP := Lib.hid (HR1.out hr (by omega))
            obtain ⟨ao, ca, rfl, _⟩ := hB.fin
            rw [h128] at *
            clear hr hm1 HR0 HR1 HR2 h128
            go_wp2_with (go_at_call 86; refine (cF _).mono ?_; rintro e w3 ⟨rfl, hb3⟩)
            obtain ⟨_, _, hb4⟩ := fcell hb3
            go_ret3
            exact ⟨_, by rw [HP.out]; rfl, by rw [HP.out]; exact FBuf.nil_of ((HB.out.trans (hb1.mono HB.out.size)).trans ((hb2.trans (hb4.mono hb2.size)).mono (Nat.le_trans HB.out.size hb1.size)))⟩
          · have HP := Lib.hid (HR2.out hr (by omega))
            have b1 : ((acc.length : Int) == 128) = false := beq_eq_false_iff_ne.2 (by omega)
            have hal : acc.length ≤ 1000000000 := by omega
            obtain ⟨ao, ca, hv5, _⟩ := hB.fin
            obtain ⟨A, hA5⟩ : ∃ A, A = acc.length := ⟨_, rfl⟩
            rw [← hA5] at hv5 b1
            have HA5 := Lib.hid hA5
            subst hv5
            clear hr hm1 HR0 HR1 HR2 h128 hA5
            go_wp2_with (first
              | (go_at_call 86; refine (cF _).mono ?_; rintro e w3 ⟨rfl, hb3⟩; obtain ⟨f0, f1, hb4⟩ := fcell hb3; have hB3 := hB.after (hb1.trans ((hb2.trans (hb4.mono hb2.size)).mono hb1.size)))
              | (at_builtin; refine appF hB3 f hal rfl _ _ rfl fx fy HX.out HY.out rfl rfl ?_; intro v' w4 hB4))
            go_roundw
            case rel => exact ⟨n + i + 2, acc ++ [f], by go_num, HP.out, hB4⟩
            case measure => simp [intOf]; omega
end Go.Proofs.YtlbjjeonchcgbaaGreatDoor

namespace Go.Proofs.YtlbjjeonchcgbaaGreatDoor
open Go.RowKit

/-- v reads as the octets l. -/
def BIn (w : World) (v : Value) (l : List UInt8) : Prop := ∃ ao cap, v = .slice ao l.length cap ∧ l.length ≤ cap ∧ cap ≤ 9223372036854775807 ∧ (l = [] ∨ ∃ b o, ao = some ⟨b, o, none⟩ ∧ b < w.heap.size ∧ ∀ j (hj : j < l.length), w.cell? ⟨b, o + j, none⟩ = some (.int .u8 (l[j].toNat : Int)))
theorem colon_is {l : List UInt8} {k : Nat} (hk : k ≤ l.length) (h1 : ∀ j (h : j < l.length), j < k → l[j] ≠ 58) (h2 : ∀ h : k < l.length, l[k] = 58) : Fld.colon l = k := Fld.colon_at l k h1 h2 hk
theorem ext_head (s : ByteArray) (ln : List UInt8) (k : Nat) (h : s.data.toList = ln) : s.extract 0 k = str (ln.take k) := by
  rw [← str_of (s.extract 0 k), cut_mid, h, List.drop_zero]
theorem ext_tail (s : ByteArray) (ln : List UInt8) (k : Nat) (h : s.data.toList = ln) : (s.extract k s.size).data.toList = ln.drop k := by
  rw [cut_mid, List.take_of_length_le (by rw [Oct.length_size]; exact Nat.le_refl _), h]

theorem colon_s (s : ByteArray) (k : Nat) (hk : k ≤ s.size) (h1 : ∀ j (h : j < s.size), j < k → s[j] ≠ 58) (h2 : ∀ h : k < s.size, s[k] = 58) : Fld.colon s.data.toList = k := by
  refine Fld.colon_at _ k (fun j hj hjk => ?_) (fun h => ?_) (by rw [Oct.length_size]; exact hk)
  · have hs : j < s.size := by rw [Oct.length_size] at hj; exact hj
    have := h1 j hs hjk
    rw [Array.getElem_toList]; exact this
  · have hs : k < s.size := by rw [Oct.length_size] at h; exact h
    have := h2 hs
    rw [Array.getElem_toList]; exact this

set_option maxHeartbeats 6400000 in
set_option maxRecDepth 100000 in
theorem rParse_w (v : Value) (l : List UInt8) (w : World) (hl : l.length ≤ 1000000) (h : BIn w v l) :
    Calls Tryz.prog 27 #[v] w fun e w' => ∃ v, e = .returned (.tuple #[v, .int .i64 (Fld.parse l).2.1, .int .i64 (Fld.parse l).2.2]) ∧ FBuf w w' v (Fld.parse l).1 := by
  obtain ⟨ao, c, rfl, hlc, hc9, hb⟩ := h
  obtain ⟨L, hL⟩ : ∃ L, L = l.length := ⟨_, rfl⟩
  have HL := Lib.hid hL
  have HB0 := Lib.hid hb
  rw [← hL] at hl hlc ⊢
  clear hb hL
  go_enter Tryz.func27, Tryz.ntmps27
  go_wp2_with fail
  go_loopw [5, 6] (fun v i wr => ∃ (n : Nat) (acc : List Fld.F), i = .int .i64 n ∧ Fld.At l n acc ∧ FBuf w wr v acc) (fun _ i _ => L - (intOf i).toNat)
  case atStart => exact ⟨0, [], rfl, Fld.At.start l, FBuf.nil w⟩
  case round =>
    obtain ⟨n, acc, rfl, hA, hB⟩ := hrel
    have hn1 : n ≤ L := by have := hA.1; have := HL.out; omega
    have hn2 : n ≤ 65536 := hA.2.1
    have hac : acc.length ≤ 128 := hA.2.2.1
    have HA := Lib.hid hA
    have HB := Lib.hid hB
    clear hA
    go_wp2_with fail
    go_loop [7] (fun i => ∃ e : Nat, n ≤ e ∧ e ≤ L ∧ i = .int .i64 e ∧ Hid (∀ j, n ≤ j → j < e → ¬ Fld.isC l j)) (fun i => L - (intOf i).toNat)
    case atStart => exact ⟨n, Nat.le_refl _, hn1, rfl, fun j h1 h2 => by omega⟩
    case round =>
      obtain ⟨e, hne, heL, rfl, HE⟩ := hrel
      by_cases hlt : e + 1 < L
      · obtain ⟨b, o, hao, hbl, hcell⟩ := HB0.out.resolve_left (fun x => by have := HL.out; rw [x] at this; simp at this; omega)
        subst hao
        have k0 : e < l.length := by have := HL.out; omega
        have k1 : e + 1 < l.length := by have := HL.out; omega
        have c0 := (hB.2.cell (p := ⟨b, o + e, none⟩) hbl).trans (hcell e k0)
        have c1 := (hB.2.cell (p := ⟨b, o + (e + 1), none⟩) hbl).trans (hcell (e + 1) k1)
        have g0 : l[e]? = some l[e] := List.getElem?_eq_getElem k0
        have g1 : l[e + 1]? = some l[e + 1] := List.getElem?_eq_getElem k1
        have HCV : Hid (∀ j (hj : j < l.length), u5 = u5 ∧ wr.cell? ⟨b, o + j, none⟩ = some (.int .u8 (l[j].toNat : Int))) := fun j hj => ⟨rfl, (hB.2.cell (p := ⟨b, o + j, none⟩) hbl).trans (hcell j hj)⟩
        generalize l[e] = x0 at c0 g0
        generalize l[e + 1] = x1 at c1 g1
        have hx0 := x0.toNat_lt
        have hx1 := x1.toNat_lt
        clear hcell
        by_cases h13 : (x0.toNat : Int) = 13
        · by_cases h10 : (x1.toNat : Int) = 10
          · have hend : Fld.endAt l n = some e := Fld.endAt_some hne ⟨by rw [g0, Oct.u8_eq (n := 13) h13], by rw [g1, Oct.u8_eq (n := 10) h10]⟩ HE.out
            have hnc : ¬ c = n := by omega
            clear g0 g1
            by_cases h6 : 65536 < e + 2
            · have HP := Lib.hid (HA.out.long hend h6)
              have b6 : (65536 : Int) < (e : Int) + 2 := by omega
              have hnb := hB.2
              clear hend h6 HCV
              go_wp2_with fail
              go_ret3
              exact ⟨_, by rw [HP.out]; rfl, by rw [HP.out]; exact FBuf.nil_of hnb⟩
            · have b6 : ¬ (65536 : Int) < (e : Int) + 2 := by omega
              have hlen : ((l.take e).drop n).length = e - n := by rw [List.length_drop, List.length_take]; omega
              have hcv := run_convert_bytes_back (P := Tryz.prog) wr 22 9 5 ⟨b, o + n, none⟩ (c - n) ((l.take e).drop n) Tryz.underlying22 Tryz.underlying5 Tryz.underlying9 (fun j hj => by
                rw [hlen] at hj
                rw [Addr.add_lit, Nat.add_assoc, (HCV.out (n + j) (by omega)).2]
                simp)
              rw [hlen] at hcv
              by_cases h0 : e = n
              · subst h0
                have HP := Lib.hid (HA.out.last hend (by omega))
                have e0 : (⟨((l.take e).drop e).toArray⟩ : ByteArray) = ⟨#[]⟩ := by
                  rw [List.drop_of_length_le (by rw [List.length_take]; omega)]
                rw [e0] at hcv
                rw [Nat.sub_self] at hcv
                clear hend h6 HCV e0 hlen
                go_upto_region 12 with fail
                clear b6
                go_wp2_with fail
                go_ret3
                exact ⟨_, by rw [HP.out]; rfl, by rw [HP.out]; exact HB.out⟩
              · obtain ⟨s, hs⟩ : ∃ s : ByteArray, s = ⟨((l.take e).drop n).toArray⟩ := ⟨_, rfl⟩
                have hsl : s.data.toList = (l.take e).drop n := by rw [hs]
                have hss : s.size = e - n := by rw [← Oct.length_size, hsl, hlen]
                rw [← hs] at hcv
                have hxe : s.toList.isEmpty = false := by
                  rw [Lib.toList_data]; cases h : s.data.toList with
                  | nil => have := Oct.length_size s; rw [h] at this; simp at this; omega
                  | cons _ _ => rfl
                have hxn : ¬ s.toList = [] := by
                  rw [Lib.toList_data]; intro h; have := Oct.length_size s; rw [h] at this; simp at this; omega
                have HSL := Lib.hid hsl
                have HEND := Lib.hid hend
                have hs9 : s.size ≤ 1000000 := by omega
                clear hss
                clear hend HCV hlen hs hsl
                go_upto_region 12 with fail
                clear b6
                go_wp2_with fail
                clear hcv
                go_loop [9] (fun i => ∃ k : Nat, k ≤ s.size ∧ i = .int .i64 k ∧ Hid (∀ j (h : j < s.size), j < k → s[j] ≠ 58)) (fun i => s.size - (intOf i).toNat)
                case atStart => exact ⟨0, by omega, rfl, fun j _ h => by omega⟩
                case round =>
                  obtain ⟨k, hk, rfl, HK⟩ := hrel
                  by_cases hks : k < s.size
                  · by_cases h58 : (s[k].toNat : Int) = 58
                    · have hcol := colon_s s k hk HK.out (fun _ => Oct.u8_eq (n := 58) h58)
                      rw [HSL.out] at hcol
                      have hkne : ¬ (k : Int) = (s.size : Int) := by omega
                      have hk1 : k + 1 ≤ s.size := hks
                      have hk2 : (k : Int) + 1 ≤ (s.size : Int) := by omega
                      have hk3 : (0 : Int) ≤ (k : Int) + 1 := by omega
                      have hk4 : (k : Int) ≤ (s.size : Int) := by omega
                      have hk5 : ((k : Int) + 1).toNat = k + 1 := by omega
                      have hk6 : IntKind.i64.wrap ((k : Int) + 1) = (k : Int) + 1 := by rw [IntKind.wrap_i64]; omega
                      have HX : Hid (s.extract 0 k = str (Fld.cutField ((l.take e).drop n)).1) := by
                        unfold Fld.cutField; rw [hcol]; exact Lib.hid (ext_head s _ k HSL.out)
                      have HY : Hid (str (Oct.trim (s.extract (k + 1) s.size).data.toList) = str (Fld.cutField ((l.take e).drop n)).2) := by
                        unfold Fld.cutField; rw [hcol, ext_tail s _ (k + 1) HSL.out]; exact Lib.hid rfl
                      have HCOL : Hid (Fld.colon ((l.take e).drop n) ≠ ((l.take e).drop n).length) := by
                        rw [hcol, ← HSL.out, Oct.length_size]; exact Lib.hid (by omega)
                      have cT := fun w => rTrim_s (s.extract (k + 1) s.size) w (by rw [ByteArray.size_extract]; omega)
                      generalize str (Oct.trim (s.extract (k + 1) s.size).data.toList) = Y at cT HY
                      have hwd : Below wr.heap.size wr wr.drew := (Below.refl _ wr).drew
                      clear hcol
                      go_wp2_with fail
                      go_region_with (go_at_call 56; refine (cT _).mono ?_; rintro e w1 ⟨rfl, rfl⟩)
                      all_goals
                        have hlt0 : wr.heap.size < (wr.alloc (.cells #[.string (s.extract 0 k), .string Y] 65)).heap.size := by simp
                        have g1 : (wr.alloc (.cells #[.string (s.extract 0 k), .string Y] 65)).drew.heap[wr.heap.size]? = some (.cells #[.string (s.extract 0 k), .string Y] 65 (0, 0)) := heap_alloc_new wr _
                        have hb1 : Below wr.heap.size wr (wr.alloc (.cells #[.string (s.extract 0 k), .string Y] 65)).drew := ((Below.refl _ wr).alloc (Nat.le_refl _) _).drew
                        generalize (wr.alloc (.cells #[.string (s.extract 0 k), .string Y] 65)).drew = w1 at *
                        generalize s.extract 0 k = X at *
                        obtain ⟨f0, f1, _, _⟩ := blk2 g1
                        have zz := readLine_small ((l.take e).drop n)
                        rw [← HSL.out, Oct.length_size, HSL.out, Fld.readLine, if_neg HCOL.out] at zz
                        obtain ⟨f, hf⟩ : ∃ f, f = Fld.cutField ((l.take e).drop n) := ⟨_, rfl⟩
                        rw [← hf] at zz HX HY
                        have HF := Lib.hid hf
                        have cF := fun w => fits_s f w (by omega) (by omega)
                        unfold fval at cF
                        rw [← HX.out, ← HY.out] at cF
                        clear hlt0 hf zz cT hwd hk1 hk2 hk3 hk4 hk5 hk6 h58 hkne hks
                        have HR0 : Hid (Fld.right f = false → Fld.parse l = ([], 0, 10)) := fun hr => HA.out.form HEND.out (by omega) h0 (Fld.fieldOf_wrong (by rw [← HF.out]; exact hr))
                        have HR1 : Hid (Fld.right f = true → acc.length ≥ 128 → Fld.parse l = ([], 0, 13)) := fun hr hm => HA.out.many HEND.out (by omega) h0 (f := f) (by rw [HF.out]; exact Fld.fieldOf_yes HCOL.out (by rw [← HF.out]; exact hr)) hm
                        have HR2 : Hid (Fld.right f = true → acc.length < 128 → Fld.At l (e + 2) (acc ++ [f])) := fun hr hm => HA.out.next HEND.out (by have := HL.out; omega) hne (by omega) h0 (by rw [HF.out]; exact Fld.fieldOf_yes HCOL.out (by rw [← HF.out]; exact hr)) hm
                        have hnL : e + 2 ≤ L := by omega
                        have hnn : n ≤ e := hne
                        clear h6 hne heL
                        cases hr : Fld.right f with
                        | false =>
                          rw [hr] at cF
                          have HP := Lib.hid (HR0.out hr)
                          clear hr
                          go_wp2_with (go_at_call 57; refine (cF _).mono ?_; rintro e w3 ⟨rfl, hb3⟩)
                          go_ret3
                          exact ⟨_, by rw [HP.out]; rfl, by rw [HP.out]; exact FBuf.nil_of (HB.out.2.trans ((hb1.trans (hb3.mono hb1.size)).mono HB.out.2.size))⟩
                        | true =>
                          rw [hr] at cF
                          obtain ⟨ax, cx, hv5, _⟩ := hB.fin
                          obtain ⟨A, hA5⟩ : ∃ A, A = acc.length := ⟨_, rfl⟩
                          rw [← hA5] at hv5 hac
                          have HA5 := Lib.hid hA5
                          subst hv5
                          clear hA5
                          by_cases h128 : 128 ≤ A
                          · have HP := Lib.hid (HR1.out hr (by have := HA5.out; omega))
                            have b1 : (128 : Int) ≤ (A : Int) := by omega
                            clear hr HR0 HR1 HR2 h128
                            go_wp2_with (go_at_call 57; refine (cF _).mono ?_; rintro e w3 ⟨rfl, hb3⟩)
                            go_ret3
                            exact ⟨_, by rw [HP.out]; rfl, by rw [HP.out]; exact FBuf.nil_of (HB.out.2.trans ((hb1.trans (hb3.mono hb1.size)).mono HB.out.2.size))⟩
                          · have HP := Lib.hid (HR2.out hr (by have := HA5.out; omega))
                            have b1 : ¬ (128 : Int) ≤ (A : Int) := by omega
                            have hal : acc.length ≤ 1000000000 := by have := HA5.out; omega
                            clear hr HR0 HR1 HR2 h128
                            go_wp2_with (first
                              | (go_at_call 57; refine (cF _).mono ?_; rintro e w3 ⟨rfl, hb3⟩; obtain ⟨f0', f1', _, _⟩ := blk2 ((hb3.block _ (lt_of_block g1)).trans g1); have hB3 := HB.out.after (hb1.trans (hb3.mono hb1.size)))
                              | (at_builtin; refine appF hB3 f hal rfl _ _ rfl X Y HX.out HY.out rfl rfl ?_; intro v' w4 hB4))
                            go_roundw
                            case rel => exact ⟨e + 2, acc ++ [f], by go_num, HP.out, hB4⟩
                            case measure => simp [intOf]; omega
                    · have HK2 : Hid (∀ j (h : j < s.size), j < k + 1 → s[j] ≠ 58) := fun j h hj he => by
                        rcases Nat.lt_or_ge j k with hjk | hjk
                        · exact HK.out j h hjk he
                        · obtain rfl : j = k := by omega
                          exact h58 (by rw [he]; rfl)
                      have b58 : ((s[k].toNat : Int) == 58) = false := beq_eq_false_iff_ne.2 h58
                      go_wp2_with fail
                      go_round
                      case rel => exact ⟨k + 1, by omega, by go_num, HK2⟩
                      case measure => simp [intOf]; omega
                  · obtain rfl : k = s.size := by omega
                    have hcol := colon_s s s.size (Nat.le_refl _) HK.out (fun h => by omega)
                    rw [HSL.out] at hcol
                    have HP := Lib.hid (HA.out.form HEND.out (by omega) h0 (Fld.fieldOf_no (by rw [hcol, ← HSL.out, Oct.length_size])))
                    have hnb := hB.2
                    clear hcol
                    go_wp2_with fail
                    go_ret3
                    exact ⟨_, by rw [HP.out]; rfl, by rw [HP.out]; exact FBuf.nil_of hnb⟩
          · have HE2 : Hid (∀ j, n ≤ j → j < e + 1 → ¬ Fld.isC l j) := fun j hj1 hj2 hc => by
              rcases Nat.lt_or_ge j e with hj | hj
              · exact HE.out j hj1 hj hc
              · obtain rfl : j = e := by omega
                have h2 := hc.2
                rw [g1] at h2
                have := Option.some.inj h2
                subst this
                exact h10 rfl
            have b10 : ((x1.toNat : Int) == 10) = false := beq_eq_false_iff_ne.2 h10
            clear g0 g1
            go_wp2_with fail
            go_round
            case rel => exact ⟨e + 1, by omega, by omega, by go_num, HE2⟩
            case measure => simp [intOf]; omega
        · have HE2 : Hid (∀ j, n ≤ j → j < e + 1 → ¬ Fld.isC l j) := fun j hj1 hj2 hc => by
            rcases Nat.lt_or_ge j e with hj | hj
            · exact HE.out j hj1 hj hc
            · obtain rfl : j = e := by omega
              have h2 := hc.1
              rw [g0] at h2
              have := Option.some.inj h2
              subst this
              exact h13 rfl
          have b13 : ((x0.toNat : Int) == 13) = false := beq_eq_false_iff_ne.2 h13
          clear g0 g1
          go_wp2_with fail
          go_round
          case rel => exact ⟨e + 1, by omega, by omega, by go_num, HE2⟩
          case measure => simp [intOf]; omega
      · have hend : Fld.endAt l n = none := Fld.endAt_none (fun j hj hc => by
          rcases Nat.lt_or_ge j e with h | h
          · exact HE.out j hj h hc
          · have := Fld.isC_lt hc; have := HL.out; omega)
        have HP := Lib.hid (HA.out.more hend)
        rw [← HL.out] at HP
        have hnb := hB.2
        by_cases h6 : 65536 < L
        · rw [if_pos h6] at HP
          have b6 : (65536 : Int) < (L : Int) := by omega
          clear hend h6
          go_wp2_with fail
          go_ret3
          exact ⟨_, by rw [HP.out]; rfl, by rw [HP.out]; exact FBuf.nil_of hnb⟩
        · rw [if_neg h6] at HP
          have b6 : ¬ (65536 : Int) < (L : Int) := by omega
          clear hend h6
          go_wp2_with fail
          go_ret3
          exact ⟨_, by rw [HP.out]; rfl, by rw [HP.out]; exact FBuf.nil_of hnb⟩
end Go.Proofs.YtlbjjeonchcgbaaGreatDoor
