/- Package fresh: values by value, the calls that the laws take; the law's short, When. -/
import Derived.Test.YtajbeoignhnpjaaDoorFdBase
import Derived.Test.YtajbeoignhnpjaaDoorCtBase
import Derived.Test.YtajbeoignhnpjaaDoorFrMath
namespace Go.Proofs.YtajbeoignhnpjaaDoor
open Go.RowKit

/-- A message, Times, what is asked: as values. -/
def mcell (a b : ByteArray) (st : Int) (c : ByteArray) (mi : Int) (fv bv : Value) : Array Value := #[.string a, .string b, .int .i64 st, .string c, .int .i64 mi, fv, bv]
def mv (a b : ByteArray) (st : Int) (c : ByteArray) (mi : Int) (fv bv : Value) : Value := .agg (mcell a b st c mi fv bv)
def tv (a g : Int) : Value := .agg #[.int .i64 a, .int .i64 g]
/-- A slice, of whatever. -/
def Sl (v : Value) : Prop := ∃ x l c, v = .slice x l c
def I64 (n : Int) : Prop := -9223372036854775808 ≤ n ∧ n ≤ 9223372036854775807

/-- Few fields, none of them long. -/
def shortR (fs : List Fld.F) : Bool := decide (fs.length ≤ 30) && fs.all fun f => decide (f.1.length ≤ 300) && decide (f.2.length ≤ 500)
theorem shortR_spec {fs : List Fld.F} (h : shortR fs = true) : fs.length ≤ 30 ∧ ∀ f ∈ fs, f.1.length ≤ 300 ∧ f.2.length ≤ 500 := by
  unfold shortR at h
  simp only [Bool.and_eq_true, decide_eq_true_eq, List.all_eq_true] at h
  exact h
theorem shortR_many {fs : List Fld.F} (h : 30 < fs.length) : false = shortR fs := by unfold shortR; rw [decide_eq_false (by omega)]; rfl
theorem shortR_long {fs : List Fld.F} {k : Nat} (hk : k < fs.length) (h : 300 < fs[k].1.length ∨ 500 < fs[k].2.length) : false = shortR fs := by
  have h2 : (fs.all fun f => decide (f.1.length ≤ 300) && decide (f.2.length ≤ 500)) = false := by
    rw [List.all_eq_false]
    refine ⟨fs[k], List.getElem_mem hk, ?_⟩
    rw [Bool.and_eq_true, decide_eq_true_eq, decide_eq_true_eq]; omega
  unfold shortR; rw [h2, Bool.and_false]
theorem shortR_all {fs : List Fld.F} (hm : fs.length ≤ 30) (h : ∀ j (hj : j < fs.length), fs[j].1.length ≤ 300 ∧ fs[j].2.length ≤ 500) : true = shortR fs := by
  have h2 : (fs.all fun f => decide (f.1.length ≤ 300) && decide (f.2.length ≤ 500)) = true := by
    rw [List.all_eq_true]
    intro f hf
    obtain ⟨j, hj, rfl⟩ := List.getElem_of_mem hf
    rw [decide_eq_true (h j hj).1, decide_eq_true (h j hj).2]; rfl
  unfold shortR; rw [h2, decide_eq_true hm]; rfl

/-- What the program's calls answer; Env: what they ask of the world; D: what a moment's text says. -/
structure Prog10 (D : List UInt8 → Option Int) (Env : World → Prop) : Prop where
  later : ∀ {w w' : World}, Env w → Below w.heap.size w w' → Env w'
  age : ∀ (a b c : ByteArray) (st mi : Int) (fv bv : Value) (fs : List Fld.F) (ta tg now : Int) (w : World), Env w → FIn w fv fs → Sl bv → shortR fs = true → I64 ta → I64 tg → I64 now →
    Calls Tryd.prog 8 #[mv a b st c mi fv bv, tv ta tg, .int .i64 now] w fun e w' => e = .returned (.int .i64 (Fr.age D fs ta tg now)) ∧ Below w.heap.size w w'
  fresh : ∀ (a b c : ByteArray) (st mi : Int) (fv bv : Value) (fs : List Fld.F) (ta tg now : Int) (w : World), Env w → FIn w fv fs → Sl bv → shortR fs = true → I64 ta → I64 tg → I64 now →
    Calls Tryd.prog 9 #[mv a b st c mi fv bv, tv ta tg, .int .i64 now] w fun e w' => e = .returned (.bool (Fr.fresh D st fs ta tg now)) ∧ Below w.heap.size w w'
  serve : ∀ (a b c : ByteArray) (st mi : Int) (fv bv : Value) (fs : List Fld.F) (ta tg now : Int) (q : Ctl.C) (w : World), Env w → FIn w fv fs → Sl bv → shortR fs = true → I64 ta → I64 tg → I64 now → I64 q.ma → I64 q.sa → I64 q.ms → I64 q.mf →
    Calls Tryd.prog 11 #[mv a b st c mi fv bv, tv ta tg, .int .i64 now, cval q] w fun e w' => e = .returned (.bool (Fr.serve D st fs ta tg now q)) ∧ Below w.heap.size w w'

theorem set7' {w : World} {g : Nat} {a b c d e f h : Value} {t : TypeId} (hh : w.heap[g]? = some (.cells #[a, b, c, d, e, f, h] t (0, 0))) :
    w.cell? ⟨g, 0, none⟩ = some a ∧ w.cell? ⟨g, 1, none⟩ = some b ∧ w.cell? ⟨g, 2, none⟩ = some c ∧ w.cell? ⟨g, 3, none⟩ = some d ∧ w.cell? ⟨g, 4, none⟩ = some e ∧ w.cell? ⟨g, 5, none⟩ = some f ∧ w.cell? ⟨g, 6, none⟩ = some h := by
  simp [World.cell?, hh]

set_option maxHeartbeats 800000 in
set_option maxRecDepth 100000 in
theorem shortM_w (a b c : ByteArray) (st mi : Int) (fv bv : Value) (xs : List Fld.F) (w : World) (ha : FIn w fv xs) (hla : xs.length ≤ 9223372036854775807) (hsz : ∀ f ∈ xs, f.1.length ≤ 9223372036854775807 ∧ f.2.length ≤ 9223372036854775807) :
    Calls Tryd.prog 7 #[mv a b st c mi fv bv] w fun e w' => e = .returned (.bool (shortR xs)) ∧ Below w.heap.size w w' := by
  unfold mv mcell
  obtain ⟨aa, ca, rfl, ha⟩ := ha
  have hbw : Below w.heap.size w (w.alloc (.cells #[.string a, .string b, .int .i64 st, .string c, .int .i64 mi, .slice aa xs.length ca, bv] 27)) := (Below.refl _ w).alloc (Nat.le_refl _) _
  obtain ⟨_, _, _, _, _, c5, _⟩ := set7' (heap_alloc_new w (.cells #[.string a, .string b, .int .i64 st, .string c, .int .i64 mi, .slice aa xs.length ca, bv] 27))
  by_cases hl : xs.length ≤ 30
  case neg =>
    have HR := Lib.hid (shortR_many (fs := xs) (by omega))
    have b1 : (30 : Int) < (xs.length : Int) := by omega
    clear hl ha hsz
    go_enter Tryd.func7, Tryd.ntmps7
    go_wp2_with fail
    go_ret
    exact ⟨ret_bool' HR.out, hbw⟩
  have b1 : ¬ (30 : Int) < (xs.length : Int) := by omega
  have HL := Lib.hid hl
  obtain ⟨n, hn⟩ : ∃ n, n = xs.length := ⟨_, rfl⟩
  rw [← hn] at b1 c5 hbw ⊢
  have hn9 : n ≤ 30 := by omega
  have HN := Lib.hid hn
  have HZ : Hid (∀ j (hj : j < n), (str (xs[j]'(HN.out ▸ hj)).1).size ≤ 9223372036854775807 ∧ (str (xs[j]'(HN.out ▸ hj)).2).size ≤ 9223372036854775807) := fun j hj => by
    rw [str_size, str_size]; exact hsz _ (List.getElem_mem _)
  have HA := Lib.hid ha
  have HW := Lib.hid (fun (p : Addr) (h : p.block < w.heap.size) => hbw.cell (p := p) h)
  clear ha hn hla hsz hl
  go_enter Tryd.func7, Tryd.ntmps7
  go_wp2_with fail
  go_loop [3] (fun i => ∃ k : Nat, k ≤ n ∧ i = .int .i64 k ∧ Hid (∀ j (hj : j < xs.length), j < k → xs[j].1.length ≤ 300 ∧ xs[j].2.length ≤ 500)) (fun i => n - (intOf i).toNat)
  case atStart => exact ⟨0, by omega, rfl, Lib.hid (fun j _ h => absurd h (by omega))⟩
  case round =>
    obtain ⟨k, hk, rfl, HT⟩ := hrel
    by_cases hlt : k < n
    · have ka : k < xs.length := by have := HN.out; omega
      obtain ⟨ba, oa, hao, hbl, hca⟩ := HA.out.resolve_left (fun e => by have h := HN.out; rw [e] at h; simp at h; omega)
      subst hao
      obtain ⟨k1, k1'⟩ := hca k ka
      have c1 := (HW.out ⟨ba, oa + k * 2, none⟩ hbl).trans k1
      have c1' := (HW.out ⟨ba, oa + k * 2 + 1, none⟩ hbl).trans k1'
      obtain ⟨z1, z2⟩ := HZ.out k hlt
      clear k1 k1' hca
      by_cases g1 : 300 < xs[k].1.length
      · have HR := Lib.hid (shortR_long ka (.inl g1))
        have g1' : (300 : Int) < ((str xs[k].1).size : Int) := by rw [str_size]; omega
        generalize str xs[k].1 = x at c1 g1' z1
        clear g1
        go_wp2_with fail
        go_ret
        exact ⟨ret_bool' HR.out, hbw⟩
      · have g1' : ¬ (300 : Int) < ((str xs[k].1).size : Int) := by rw [str_size]; omega
        by_cases g2 : 500 < xs[k].2.length
        · have HR := Lib.hid (shortR_long ka (.inr g2))
          have g2' : (500 : Int) < ((str xs[k].2).size : Int) := by rw [str_size]; omega
          generalize str xs[k].1 = x at c1 g1' z1
          generalize str xs[k].2 = y at c1' g2' z2
          clear g1 g2
          go_wp2_with fail
          go_ret
          exact ⟨ret_bool' HR.out, hbw⟩
        · have g2' : ¬ (500 : Int) < ((str xs[k].2).size : Int) := by rw [str_size]; omega
          have HS : Hid (∀ j (hj : j < xs.length), j < k + 1 → xs[j].1.length ≤ 300 ∧ xs[j].2.length ≤ 500) := Lib.hid (fun j hj h => by
            by_cases e : j = k
            · subst e; omega
            · exact HT.out j hj (by omega))
          generalize str xs[k].1 = x at c1 g1' z1
          generalize str xs[k].2 = y at c1' g2' z2
          clear g1 g2
          go_wp2_with fail
          go_round
          case rel => exact ⟨k + 1, by omega, by go_num, HS⟩
          case measure => simp [intOf]; omega
    · have HR : Hid (true = shortR xs) := Lib.hid (shortR_all HL.out (fun j hj => HT.out j hj (by have := HN.out; omega)))
      go_wp2_with fail
      go_ret
      exact ⟨ret_bool' HR.out, hbw⟩

theorem Cap_w (n m : Int) (w : World) (hm : 0 ≤ m) :
    Calls Tryd.prog 17 #[.int .i64 n, .int .i64 m] w fun e w' => e = .returned (.int .i64 (Fr.cap n m)) ∧ w = w' := by
  have HE : Hid (Fr.cap n m = max 0 (min n m)) := Lib.hid rfl
  rcases (show n < 0 ∨ (¬ n < 0 ∧ m < n) ∨ (¬ n < 0 ∧ ¬ m < n) by omega) with h | ⟨h, h'⟩ | ⟨h, h'⟩
  · have HC : Hid (Fr.cap n m = 0) := Lib.hid (by rw [HE.out]; omega)
    go_enter Tryd.func17, Tryd.ntmps17
    go_wp2_with fail
    go_ret
    exact ⟨by rw [HC.out]; rfl, rfl⟩
  · have HC : Hid (Fr.cap n m = m) := Lib.hid (by rw [HE.out]; omega)
    go_enter Tryd.func17, Tryd.ntmps17
    go_wp2_with fail
    go_ret
    exact ⟨by rw [HC.out]; rfl, rfl⟩
  · have HC : Hid (Fr.cap n m = n) := Lib.hid (by rw [HE.out]; omega)
    go_enter Tryd.func17, Tryd.ntmps17
    go_wp2_with fail
    go_ret
    exact ⟨by rw [HC.out]; rfl, rfl⟩
theorem far_w (w : World) : Calls Tryd.prog 18 #[] w fun e w' => e = .returned (.int .i64 1099511627776) ∧ w = w' := by
  go_enter Tryd.func18, Tryd.ntmps18
  go_wp2
  go_ret
  exact ⟨rfl, rfl⟩
end Go.Proofs.YtajbeoignhnpjaaDoor
