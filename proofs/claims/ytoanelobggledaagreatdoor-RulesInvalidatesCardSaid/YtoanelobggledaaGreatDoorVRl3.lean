/- Package rules, the document's side: tags, own conditions, what confirms, by which fields is asked. -/
import Derived.Test.YtoanelobggledaaGreatDoorVR1
import Derived.IntWalk
namespace Go.Proofs.YtoanelobggledaaGreatDoor
open Go.RowKit

theorem str_ne {x y : List UInt8} (h : x ≠ y) : ((str x).toList == (str y).toList) = false := by rw [str_toList, str_toList]; exact beq_eq_false_iff_ne.2 h
theorem str_nel {x l : List UInt8} (h : x ≠ l) : ((str x).toList == l) = false := by rw [str_toList]; exact beq_eq_false_iff_ne.2 h
theorem arr_nef {a : ByteArray} {l : List UInt8} (h : a ≠ str l) : (a.toList == l) = false := beq_eq_false_iff_ne.2 (fun e => h (by rw [← str_of a, ← e, Lib.toList_data]))
theorem rbare_w (t : List UInt8) (ht : t.length ≤ 1000000) (w : World) : Calls Tryz.prog 59 #[.string (str t)] w fun e w' => e = .returned (.string (str (Rl.bare t))) ∧ w = w' := by
  have hz : (str t).size = t.length := str_size t
  have h0 := ext_head (str t) t 2 (str_list t)
  have h2 : (str t).extract 2 (str t).size = str (t.drop 2) := by rw [← str_of ((str t).extract 2 (str t).size), ext_tail (str t) t 2 (str_list t)]
  by_cases hl : t.length < 2
  · have HR : Hid (Rl.bare t = t) := Lib.hid (by
      unfold Rl.bare; rw [if_neg]
      intro e
      have := congrArg List.length e
      rw [List.length_take] at this; simp at this; omega)
    rw [HR.out]
    generalize str t = s at *
    have h1 : ¬ (2 : Int) ≤ (s.size : Int) := by omega
    clear h0 h2 HR ht
    go_enter Tryz.func59, Tryz.ntmps59
    go_wp2_with fail
    go_ret
    exact ⟨rfl, rfl⟩
  · have h1 : (2 : Int) ≤ ((str t).size : Int) := by omega
    have h9 : (str t).size ≤ 1000000 := by omega
    by_cases he : t.take 2 = [87, 47]
    · have HR : Hid (Rl.bare t = t.drop 2) := Lib.hid (by unfold Rl.bare; rw [if_pos he])
      rw [HR.out]
      rw [he, show str [87, 47] = ⟨#[87, 47]⟩ from rfl] at h0
      generalize str (t.drop 2) = r at *
      generalize str t = s at *
      clear HR ht hl hz he
      go_enter Tryz.func59, Tryz.ntmps59
      go_wp2_with fail
      go_ret
      exact ⟨rfl, rfl⟩
    · have HR : Hid (Rl.bare t = t) := Lib.hid (by unfold Rl.bare; rw [if_neg he])
      rw [HR.out]
      have hx : ((str (t.take 2)).toList == [87, 47]) = false := str_nel he
      generalize str (t.take 2) = q at *
      generalize str t = s at *
      clear HR ht hl hz he h2
      go_enter Tryz.func59, Tryz.ntmps59
      go_wp2_with fail
      go_ret
      exact ⟨rfl, rfl⟩
theorem one_small {fs : List Fld.F} (h : Mid fs) {n v : List UInt8} (ho : Rl.one fs n = some v) : v.length ≤ 500 := by
  unfold Rl.one at ho
  split at ho
  · rename_i x hx
    obtain rfl := Option.some.inj ho
    exact (h.got n).2 _ (by rw [hx]; simp)
  · cases ho
end Go.Proofs.YtoanelobggledaaGreatDoor

