/- Package chunk, the program: a part, whatever is awaited. -/
import Derived.Test.YtgnopcghobaoiaaDoorCkP3
namespace Go.Proofs.YtgnopcghobaoiaaDoor
open Go.RowKit

theorem Part.nil {w : World} {u : Value} {p : List UInt8} (h : Part w u p) : NilOk u := by
  obtain ⟨⟨ao, cap, hv, h1, h2, hg⟩, ao', hv'⟩ := h
  intro c hc
  rw [hv'] at hc
  have h3 := (Value.slice.inj hc).2
  omega
set_option maxHeartbeats 6400000 in
set_option maxRecDepth 100000 in
theorem take_size (g : Nat) (t : Nat) (u : Value) (p : List UInt8) (w : World) (_hp0 : p ≠ []) (hp : p.length ≤ 1000) (ht : t ≤ 1048576) (hd : DAt w g 0 0 t 0 0) (hm : MaxOk w) (hu : Part w u p) :
    Calls Tryd.prog 19 #[.pointer (some ⟨g, 0, none⟩), u] w fun x w' => x = .returned (.int .i64 (Ck.tk (.size t) p).2) ∧ But g w w' ∧ Dst w' g (Ck.tk (.size t) p).1 0 := by
  have cS := size_w g t p w hp ht hd hm
  have hcv := hu.1.all hu.nil
  obtain ⟨c0, _, _, _, _⟩ := hd.cells
  obtain ⟨_, ao, rfl⟩ := hu
  generalize str p = X at *
  clear hp ht hd hm
  go_enter Tryd.func19, Tryd.ntmps19
  go_wp2_with fail
  refine cS.mono ?_
  rintro e W1 ⟨rfl, hB, hD⟩
  go_wp2_with fail
  go_ret
  exact ⟨rfl, hB, hD⟩
set_option maxHeartbeats 6400000 in
set_option maxRecDepth 100000 in
theorem take_trail (g : Nat) (k : Nat) (t : Int) (u : Value) (p : List UInt8) (w : World) (hp0 : p ≠ []) (hp : p.length ≤ 1000) (hk : k ≤ 128) (hd : DAt w g 3 0 t k 0) (hm : MaxOk w) (hu : Part w u p) :
    Calls Tryd.prog 19 #[.pointer (some ⟨g, 0, none⟩), u] w fun x w' => x = .returned (.int .i64 (Ck.tk (.trail k) p).2) ∧ But g w w' ∧ Dst w' g (Ck.tk (.trail k) p).1 0 := by
  have cS := trail_w g k t u p w hp0 hp hk hd hu hm
  obtain ⟨c0, _, _, _, _⟩ := hd.cells
  obtain ⟨_, ao, rfl⟩ := hu
  clear hp hp0 hk hd hm
  go_enter Tryd.func19, Tryd.ntmps19
  go_wp2_with fail
  refine cS.mono ?_
  rintro e W1 ⟨rfl, hB, hD⟩
  go_wp2_with fail
  go_ret
  exact ⟨rfl, hB, hD⟩
set_option maxHeartbeats 6400000 in
set_option maxRecDepth 100000 in
theorem take_data (g : Nat) (t n : Nat) (u : Value) (p : List UInt8) (w : World) (_hp0 : p ≠ []) (hp : p.length < n) (hn : n ≤ t) (ht : t ≤ 1048576) (hd : DAt w g 1 n t 0 0) (hu : Part w u p) :
    Calls Tryd.prog 19 #[.pointer (some ⟨g, 0, none⟩), u] w fun x w' => x = .returned (.int .i64 (Ck.tk (.data t n) p).2) ∧ But g w w' ∧ Dst w' g (Ck.tk (.data t n) p).1 0 := by
  obtain ⟨c0, c1, c2, c3, c4⟩ := hd.cells
  have q1 := hd.free 1
  have q0 := hd.free 0
  have HDA := Lib.hid hd
  obtain ⟨_, ao, rfl⟩ := hu
  obtain ⟨K, hK⟩ : ∃ K, K = p.length := ⟨_, rfl⟩
  have hKi : (K : Int) ≤ n := by omega
  have hni : (n : Int) ≤ 1048576 := by omega
  have hT : Ck.tk (.data t n) p = (.data t (n - p.length), 0) := by
    show (Ck.sD t (n - p.length), (0 : Int)) = _
    unfold Ck.sD; rw [if_neg (by omega)]
  rw [← hK] at hT
  have HT := Lib.hid hT
  have HG : Hid (Ck.Good (.data t (n - K))) := Lib.hid ⟨by omega, by omega, ht⟩
  have HE : Hid ((n : Int) - K = ((n - K : Nat) : Int)) := Lib.hid (by omega)
  have hz : ((n : Int) - K == 0) = false := beq_eq_false_iff_ne.2 (by omega)
  have hz2 : ¬ ((n : Int) - K = 0) := by omega
  have hz3 : ¬ ((n : Int) = K) := by omega
  rw [← hK]
  clear hp hn ht hd hT hK
  go_enter Tryd.func19, Tryd.ntmps19
  go_upto_region 6 with fail
  have hd1 : DAt (w.setCell ⟨g, 1, none⟩ (.int .i64 ((n : Int) - K))) g 1 ((n : Int) - K) t 0 0 := HDA.out.put 1 _ rfl
  have hB1 := (But.refl g w).put 1 (.int .i64 ((n : Int) - K))
  generalize w.setCell ⟨g, 1, none⟩ (.int .i64 ((n : Int) - K)) = W1 at *
  obtain ⟨c0, c1, c2, c3, c4⟩ := hd1.cells
  have q0 := hd1.free 0
  go_wp2_with fail
  go_ret
  rw [HT.out]
  refine ⟨rfl, hB1, HG.out, ?_⟩
  have := hd1
  rw [HE.out] at this
  exact this
set_option maxHeartbeats 6400000 in
set_option maxRecDepth 100000 in
theorem take_dataEnd (g : Nat) (t n : Nat) (u : Value) (p : List UInt8) (w : World) (_hp0 : p ≠ []) (hp : p.length = n) (hn : n ≤ t) (ht : t ≤ 1048576) (hd : DAt w g 1 n t 0 0) (hu : Part w u p) :
    Calls Tryd.prog 19 #[.pointer (some ⟨g, 0, none⟩), u] w fun x w' => x = .returned (.int .i64 (Ck.tk (.data t n) p).2) ∧ But g w w' ∧ Dst w' g (Ck.tk (.data t n) p).1 0 := by
  obtain ⟨c0, c1, c2, c3, c4⟩ := hd.cells
  have q1 := hd.free 1
  have q0 := hd.free 0
  have HDA := Lib.hid hd
  obtain ⟨_, ao, rfl⟩ := hu
  obtain ⟨K, hK⟩ : ∃ K, K = p.length := ⟨_, rfl⟩
  have hKi : (n : Int) - K = 0 := by omega
  have hni : (n : Int) ≤ 1048576 := by omega
  have hT : Ck.tk (.data t n) p = (.tail t, 0) := by
    show (Ck.sD t (n - p.length), (0 : Int)) = _
    unfold Ck.sD; rw [if_pos (by omega)]
  have HT := Lib.hid hT
  have HG : Hid (Ck.Good (.tail t)) := Lib.hid ht
  rw [← hK]
  clear hp hn ht hd hT hK
  go_enter Tryd.func19, Tryd.ntmps19
  go_upto_region 6 with fail
  have hd1 : DAt (w.setCell ⟨g, 1, none⟩ (.int .i64 0)) g 1 0 t 0 0 := HDA.out.put 1 _ rfl
  have hB1 := (But.refl g w).put 1 (.int .i64 0)
  generalize w.setCell ⟨g, 1, none⟩ (.int .i64 0) = W1 at *
  obtain ⟨c0, c1, c2, c3, c4⟩ := hd1.cells
  have q0 := hd1.free 0
  go_wp2_with fail
  go_ret
  rw [HT.out]
  exact ⟨rfl, hB1.put 0 _, HG.out, hd1.put 0 _ rfl⟩
set_option maxHeartbeats 6400000 in
set_option maxRecDepth 100000 in
theorem take_tail (g : Nat) (t : Nat) (u : Value) (p : List UInt8) (w : World) (_hp0 : p ≠ []) (hp : p = [13, 10]) (ht : t ≤ 1048576) (hd : DAt w g 2 0 t 0 0) (hu : Part w u p) :
    Calls Tryd.prog 19 #[.pointer (some ⟨g, 0, none⟩), u] w fun x w' => x = .returned (.int .i64 (Ck.tk (.tail t) p).2) ∧ But g w w' ∧ Dst w' g (Ck.tk (.tail t) p).1 0 := by
  have hcv := hu.1.all hu.nil
  obtain ⟨c0, c1, c2, c3, c4⟩ := hd.cells
  have q0 := hd.free 0
  have HDA := Lib.hid hd
  obtain ⟨_, ao, rfl⟩ := hu
  have HT : Hid (Ck.tk (.tail t) p = (.size t, 0)) := Lib.hid (by show (if p = [13, 10] then (Ck.S.size t, (0 : Int)) else (.tail t, 10)) = _; rw [if_pos hp])
  have HG : Hid (Ck.Good (.size t)) := Lib.hid ht
  rw [show str p = ⟨#[13, 10]⟩ by rw [hp]; rfl] at hcv
  rw [show p.length = 2 by rw [hp]; rfl] at hcv ⊢
  clear hp ht hd
  go_enter Tryd.func19, Tryd.ntmps19
  go_wp2_with fail
  go_ret
  rw [HT.out]
  exact ⟨rfl, (But.refl g w).put 0 _, HG.out, HDA.out.put 0 _ rfl⟩
set_option maxHeartbeats 6400000 in
set_option maxRecDepth 100000 in
theorem take_tailNot (g : Nat) (t : Nat) (u : Value) (p : List UInt8) (w : World) (_hp0 : p ≠ []) (hp : p ≠ [13, 10]) (ht : t ≤ 1048576) (hd : DAt w g 2 0 t 0 0) (hu : Part w u p) :
    Calls Tryd.prog 19 #[.pointer (some ⟨g, 0, none⟩), u] w fun x w' => x = .returned (.int .i64 (Ck.tk (.tail t) p).2) ∧ But g w w' ∧ Dst w' g (Ck.tk (.tail t) p).1 0 := by
  have hcv := hu.1.all hu.nil
  obtain ⟨c0, c1, c2, c3, c4⟩ := hd.cells
  have q0 := hd.free 0
  have HDA := Lib.hid hd
  obtain ⟨_, ao, rfl⟩ := hu
  have HT : Hid (Ck.tk (.tail t) p = (.tail t, 10)) := Lib.hid (by show (if p = [13, 10] then (Ck.S.size t, (0 : Int)) else (.tail t, 10)) = _; rw [if_neg hp])
  have HG : Hid (Ck.Good (.tail t)) := Lib.hid ht
  obtain ⟨g1, g2, g3⟩ := list_no (a := str p) (l := [13, 10]) (by rw [str_list]; exact hp)
  generalize str p = X at *
  generalize p.length = L at *
  clear hp ht hd
  go_enter Tryd.func19, Tryd.ntmps19
  go_wp2_with fail
  go_ret
  rw [HT.out]
  exact ⟨rfl, But.refl g w, HG.out, HDA.out⟩
/-- What part may come. -/
def Due (s : Ck.S) (p : List UInt8) : Prop := match s with
  | .size _ => p.length ≤ 1000
  | .data _ n => p.length ≤ n
  | .tail _ => True
  | .trail _ => p.length ≤ 1000
  | .over => False
/-- A part is taken. -/
theorem take_w (g : Nat) (s : Ck.S) (u : Value) (p : List UInt8) (w : World) (hp0 : p ≠ []) (hp : Due s p) (hd : Dst w g s 0) (hu : Part w u p) (hm : MaxOk w) :
    Calls Tryd.prog 19 #[.pointer (some ⟨g, 0, none⟩), u] w fun x w' => x = .returned (.int .i64 (Ck.tk (s) p).2) ∧ But g w w' ∧ Dst w' g (Ck.tk (s) p).1 0 := by
  obtain ⟨hg, hd⟩ := hd
  cases s with
  | size t => exact take_size g t u p w hp0 hp hg hd hm hu
  | data t n =>
    by_cases h : p.length = n
    · exact take_dataEnd g t n u p w hp0 h hg.2.1 hg.2.2 hd hu
    · exact take_data g t n u p w hp0 (Nat.lt_of_le_of_ne hp h) hg.2.1 hg.2.2 hd hu
  | tail t =>
    by_cases h : p = [13, 10]
    · exact take_tail g t u p w hp0 h hg hd hu
    · exact take_tailNot g t u p w hp0 h hg hd hu
  | trail k => obtain ⟨t, hd⟩ := hd; exact take_trail g k t u p w hp0 hp hg hd hm hu
  | over => exact hp.elim
end Go.Proofs.YtgnopcghobaoiaaDoor
