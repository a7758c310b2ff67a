/- The laws' filled; the document's Same. -/
import Derived.Test.YtjdmmnpfjbnhoaaDvB
import Derived.Test.YtjdmmnpfjbnhoaaDvMath
namespace Go.Proofs.Ytjdmmnpfjbnhoaa
open Go.RowKit

def fill (D : List UInt8) (n k : Nat) : List UInt8 := D.take k ++ List.replicate (n - k) 0
theorem fill_zero (D : List UInt8) (n : Nat) : fill D n 0 = List.replicate n 0 := by simp [fill]
theorem fill_len {D : List UInt8} {n k : Nat} (h : D.length = n) (hk : k ≤ n) : (fill D n k).length = n := by simp [fill]; omega
theorem fill_full {D : List UInt8} {n : Nat} (h : D.length = n) : fill D n n = D := by simp [fill, ← h]
theorem fill_set {D : List UInt8} {n k : Nat} (h : D.length = n) (hk : k < n) : (fill D n k).set k (D[k]'(by omega)) = fill D n (k + 1) := by
  unfold fill
  have hl : (D.take k).length = k := by rw [List.length_take]; omega
  rw [List.set_append_right _ _ (by omega), hl, Nat.sub_self, tk_snoc D k (by omega), show n - k = (n - (k + 1)) + 1 by omega, List.replicate_succ, List.set_cons_zero, List.append_assoc]
  rfl
/-- A sector of one octet. -/
def filled (c : UInt8) : List UInt8 := List.replicate 64 c
theorem filled_len (c : UInt8) : (filled c).length = 64 := List.length_replicate

theorem tk_eq (a b : List (List UInt8)) (k : Nat) (h1 : k < a.length) (h2 : k < b.length) (h : a.take k = b.take k) (he : a[k] = b[k]) : a.take (k + 1) = b.take (k + 1) := by
  rw [List.take_add_one, List.take_add_one, h, List.getElem?_eq_getElem h1, List.getElem?_eq_getElem h2, he]
set_option maxHeartbeats 1600000 in
set_option maxRecDepth 100000 in
theorem Same_w (va vb : Value) (la lb : List (List UInt8)) (w : World) (ha : BsIn w va la) (hb : BsIn w vb lb) :
    Calls Try.prog 13 #[va, vb] w fun e w' => e = .returned (.bool (decide (la = lb))) ∧ Below w.heap.size w w' := by
  obtain ⟨aa, ca, rfl, hca, hca9, hga⟩ := ha
  obtain ⟨ab, cb, rfl, hcb, hcb9, hgb⟩ := hb
  have GA := Lib.hid hga
  have GB := Lib.hid hgb
  obtain ⟨n, hn⟩ : ∃ n, n = la.length := ⟨_, rfl⟩
  obtain ⟨m, hm⟩ : ∃ m, m = lb.length := ⟨_, rfl⟩
  have HN := Lib.hid hn
  have HM := Lib.hid hm
  rw [← hn] at hca ⊢
  rw [← hm] at hcb ⊢
  clear hga hgb hn hm
  by_cases hnm : n = m
  · subst hnm
    go_enter Try.func13, Try.ntmps13
    go_wp2_with fail
    go_loopw [5] (fun i wr => ∃ k : Nat, k ≤ n ∧ i = .int .i64 k ∧ Hid (la.take k = lb.take k) ∧ Below w.heap.size w wr) (fun i _ => n - (intOf i).toNat)
    case atStart => exact ⟨0, Nat.zero_le _, rfl, Lib.hid rfl, Below.refl _ _⟩
    case round =>
      obtain ⟨k, hk, rfl, HE, hbr⟩ := hrel
      by_cases hlt : k < n
      · have hki : (k : Int) < n := by omega
        obtain ⟨b1, o1, hx1, hl1, hc1⟩ := GA.out.resolve_left (fun x => by have := HN.out; rw [x] at this; simp at this; omega)
        obtain ⟨b2, o2, hx2, hl2, hc2⟩ := GB.out.resolve_left (fun x => by have := HM.out; rw [x] at this; simp at this; omega)
        subst hx1 hx2
        have k1 : k < la.length := by rw [← HN.out]; exact hlt
        have k2 : k < lb.length := by rw [← HM.out]; exact hlt
        obtain ⟨u1, f1, i1, n1⟩ := hc1 k k1
        obtain ⟨u2, f2, i2, n2⟩ := hc2 k k2
        have f1' := cell_later hbr f1
        have f2' := cell_later hbr f2
        have s1 := fun W (hb : Below wr.heap.size wr W) => (i1.later (bt5 hbr hb)).all n1
        have s2 := fun W (hb : Below wr.heap.size wr W) => (i2.later (bt5 hbr hb)).all n2
        obtain ⟨_, _, rfl, _⟩ := i1
        obtain ⟨_, _, rfl, _⟩ := i2
        have HTK := Lib.hid (tk_eq la lb k k1 k2 HE.out)
        have HNE := Lib.hid (fun h : la[k] ≠ lb[k] => str_no h)
        have HNQ := Lib.hid (fun (h : la[k] ≠ lb[k]) (e : la = lb) => h (by subst e; rfl))
        have q1 := fun j => s1 (wr.drewN j) ⟨rfl, rfl, rfl, Nat.le_refl _, fun _ _ => rfl⟩
        have q2 := fun j => s2 (wr.drewN j) ⟨rfl, rfl, rfl, Nat.le_refl _, fun _ _ => rfl⟩
        clear hc1 hc2 f1 f2 s1 s2
        generalize la[k] = x1 at *
        generalize lb[k] = x2 at *
        by_cases hxx : x1 = x2
        · subst hxx
          go_upto_region 6 with fail
          go_quiet (fail)
          have hbq : Below wr.heap.size wr (wr.drewN nq) := ⟨rfl, rfl, rfl, Nat.le_refl _, fun _ _ => rfl⟩
          have hb2 := bt5 hbr hbq
          have HB2 := Lib.hid hb2
          generalize wr.drewN nq = w5 at hb2 ⊢
          clear f1' f2' q1 q2 hbq hbr HNE HNQ
          go_wp2_with fail
          go_roundw
          case rel => exact ⟨k + 1, by omega, by go_num, Lib.hid (HTK.out rfl), hb2⟩
          case measure => simp [intOf]; omega
        · have m1 := (HNE.out hxx).1
          have m2 := (HNE.out hxx).2.1
          have m3 := (HNE.out hxx).2.2
          have HD := Lib.hid (decide_eq_false (HNQ.out hxx))
          obtain ⟨p1, hp1⟩ : ∃ p1, str x1 = p1 := ⟨_, rfl⟩
          obtain ⟨p2, hp2⟩ : ∃ p2, str x2 = p2 := ⟨_, rfl⟩
          rw [hp1] at q1 m1 m2 m3
          rw [hp2] at q2 m1 m2 m3
          clear hp1 hp2 HNE HNQ HTK hxx
          go_upto_region 6 with fail
          go_quiet (fail)
          have hbq : Below wr.heap.size wr (wr.drewN nq) := ⟨rfl, rfl, rfl, Nat.le_refl _, fun _ _ => rfl⟩
          have hb2 := bt5 hbr hbq
          generalize wr.drewN nq = w5 at hb2 ⊢
          clear f1' f2' q1 q2 hbq hbr
          go_wp2_with fail
          go_ret
          exact ⟨by rw [HD.out]; rfl, hb2⟩
      · have hki : ¬ (k : Int) < n := by omega
        have HD : Hid (decide (la = lb) = true) := Lib.hid (decide_eq_true (by
          have := HE.out
          rw [show k = la.length by rw [← HN.out]; omega, List.take_length, ← HN.out, HM.out, List.take_length] at this
          exact this))
        clear hlt hk
        go_wp2_with fail
        go_ret
        exact ⟨by rw [HD.out]; rfl, hbr⟩
  · have hni : ((n : Int) != (m : Int)) = true := by
      rw [bne, beq_eq_false_iff_ne.2 (by omega)]; rfl
    have hni2 : ¬ (n : Int) = (m : Int) := by omega
    have HD : Hid (decide (la = lb) = false) := Lib.hid (decide_eq_false (fun e => hnm (by rw [HN.out, HM.out, e])))
    go_enter Try.func13, Try.ntmps13
    go_wp2_with fail
    go_ret
    exact ⟨by rw [HD.out]; rfl, Below.refl _ _⟩
end Go.Proofs.Ytjdmmnpfjbnhoaa
