/- The document's own answer for package target: does a text begin so. -/
import Derived.Test.YtlikjfemkadciaaGreatDoorTg23
namespace Go.Proofs.YtlikjfemkadciaaGreatDoor
open Go.RowKit

set_option maxHeartbeats 800000 in
set_option maxRecDepth 100000 in
theorem rhttp_s (l : List UInt8) (w : World) (hl : l.length ≤ 100000) :
    Calls Tryz.prog 25 #[.string (str l)] w fun e w' => e = .returned (.bool (Tg.http l)) ∧ Below w.heap.size w w' := by
  obtain ⟨s, hs⟩ : ∃ s, s = str l := ⟨_, rfl⟩
  have hsd : s.data.toList = l := by rw [hs, str_list]
  have hsz : s.size = l.length := by rw [hs, str_size]
  rw [← hs]
  by_cases h7 : 7 ≤ l.length
  · have h7i : (7 : Int) ≤ s.size := by omega
    have e7 : (s.extract 0 7).data.toList = l.take 7 := by rw [Lib.extract_data, hsd]; simp
    have cL := fun (W : World) => rLower_s (s.extract 0 7) W (by simp; omega)
    rw [e7] at cL
    by_cases hy : Oct.lower (l.take 7) = Tg.httpT
    · have HR : Hid (Tg.http l = true) := Lib.hid (by show (decide (7 ≤ l.length) && Oct.lower (l.take 7) == Tg.httpT) = true; rw [hy, decide_eq_true h7]; rfl)
      rw [hy, show str Tg.httpT = ⟨#[104, 116, 116, 112, 58, 47, 47]⟩ from rfl] at cL
      clear hs hsd e7 hy h7
      go_enter Tryz.func25, Tryz.ntmps25
      go_wp2_with fail
      refine (cL _).mono ?_
      rintro e W ⟨rfl, hb⟩
      go_wp2_with fail
      go_ret
      exact ⟨ret_bool HR.out.symm, hb⟩
    · have HR : Hid (Tg.http l = false) := Lib.hid (by
        show (decide (7 ≤ l.length) && Oct.lower (l.take 7) == Tg.httpT) = false
        rw [beq_eq_false_iff_ne.2 hy, Bool.and_false])
      have hne : str (Oct.lower (l.take 7)) ≠ ⟨#[104, 116, 116, 112, 58, 47, 47]⟩ := fun e => hy (str_inj e)
      generalize str (Oct.lower (l.take 7)) = y at *
      have hn2 : ¬ y.toList = (⟨#[104, 116, 116, 112, 58, 47, 47]⟩ : ByteArray).toList := fun e => hne (ByteArray.ext (Array.toList_inj.1 (by rw [← Lib.toList_data, ← Lib.toList_data]; exact e)))
      have hn3 : ¬ y.toList = [104, 116, 116, 112, 58, 47, 47] := by rw [Lib.toList_data] at hn2 ⊢; exact fun e => hne (ByteArray.ext (Array.toList_inj.1 e))
      have bn3 : (y.toList == [104, 116, 116, 112, 58, 47, 47]) = false := beq_eq_false_iff_ne.2 hn3
      clear hs hsd e7 hy h7 hn2
      go_enter Tryz.func25, Tryz.ntmps25
      go_wp2_with fail
      refine (cL _).mono ?_
      rintro e W ⟨rfl, hb⟩
      go_wp2_with fail
      all_goals go_ret
      all_goals exact ⟨ret_bool HR.out.symm, hb⟩
  · have HR : Hid (Tg.http l = false) := Lib.hid (by
      show (decide (7 ≤ l.length) && Oct.lower (l.take 7) == Tg.httpT) = false
      rw [decide_eq_false h7, Bool.false_and])
    have h7i : ¬ (7 : Int) ≤ s.size := by omega
    clear hs hsd h7
    go_enter Tryz.func25, Tryz.ntmps25
    go_wp2_with fail
    go_ret
    exact ⟨ret_bool HR.out.symm, Below.refl _ _⟩
end Go.Proofs.YtlikjfemkadciaaGreatDoor
