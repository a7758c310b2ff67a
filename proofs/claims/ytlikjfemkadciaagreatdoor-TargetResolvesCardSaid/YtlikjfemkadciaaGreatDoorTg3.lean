/- Package target: what stands ahead, the scheme, ports, hosts. -/
import Derived.Test.YtlikjfemkadciaaGreatDoorTg2
namespace Go.Proofs.YtlikjfemkadciaaGreatDoor
open Go.RowKit

theorem any_all (s : ByteArray) (w : World) (hs : s.size ≤ 1000000) :
    Calls Tryz.prog 36 #[.string s, .string ⟨#[47, 63]⟩] w fun e w' => e = .returned (.int .i64 (Lib.indexAny s.data.toList [47, 63])) ∧ Below w.heap.size w w' := by
  by_cases h8 : s.size ≤ 8
  · exact any_short s w h8
  · have h116 : (Tryz.prog.info? 67).map (fun i => (i.zero, i.size)) = some (some (.agg (Array.replicate 256 (.bool false))), 256) := by kernel_rfl
    refine (Tryz.strings_IndexAny_long (zero_of_info h116).1 s ⟨#[47, 63]⟩ w (by decide) (by omega) (by omega) (by decide) ?_).mono ?_
    · intro j b hj
      match j, hj with
      | 0, hj => simp at hj; subst hj; decide
      | 1, hj => simp at hj; subst hj; decide
    · rintro e w' ⟨he, rfl⟩
      exact ⟨he, ((Below.refl _ _).alloc (Nat.le_refl _) _).alloc (by simp) _⟩
theorem any_one (s : ByteArray) (d : UInt8) (hd : d.toNat < 128) (w : World) :
    Calls Tryz.prog 36 #[.string s, .string ⟨#[d]⟩] w fun e w' => e = .returned (.int .i64 (Lib.indexAny s.data.toList [d])) ∧ Below w.heap.size w w' := by
  refine (Tryz.strings_IndexAny_one s ⟨#[d]⟩ w rfl ?_).mono ?_
  · intro j b hj
    match j, hj with
    | 0, hj => simp at hj; subst hj; exact hd
  · rintro e w' ⟨he, rfl⟩
    exact ⟨he, Below.refl _ _⟩

set_option maxHeartbeats 800000 in
theorem ahead_c (s ch : ByteArray) (p : UInt8 → Bool) (w : World) (_hs : s.size ≤ 1000000) (hp : ∀ c, ch.data.toList.contains c = p c)
    (hI : Calls Tryz.prog 36 #[.string s, .string ch] w fun e w' => e = .returned (.int .i64 (Lib.indexAny s.data.toList ch.data.toList)) ∧ Below w.heap.size w w') :
    Calls Tryz.prog 21 #[.string s, .string ch] w fun e w' => e = .returned (.int .i64 (Tg.ahead p s.data.toList)) ∧ Below w.heap.size w w' := by
  have hx := ahead_index p _ hp s.data.toList
  generalize Lib.indexAny s.data.toList ch.data.toList = X at *
  have hl : s.data.toList.length = s.size := by simp
  rw [hl] at hx
  generalize Tg.ahead p s.data.toList = Y at *
  clear hp hl
  rcases hx with ⟨rfl, rfl⟩ | ⟨h0, h1⟩
  · go_enter Tryz.func21, Tryz.ntmps21
    go_wp2_with fail
    refine hI.mono ?_
    rintro e w1 ⟨rfl, hb⟩
    go_wp2_with fail
    go_ret
    exact ⟨rfl, hb⟩
  · go_enter Tryz.func21, Tryz.ntmps21
    have HE := Lib.hid h1
    clear h1
    go_wp2_with fail
    refine hI.mono ?_
    rintro e w1 ⟨rfl, hb⟩
    go_wp2_with fail
    go_ret
    exact ⟨ret_int HE.out, hb⟩
theorem ahead_qm (s : ByteArray) (w : World) (hs : s.size ≤ 1000000) :
    Calls Tryz.prog 21 #[.string s, .string ⟨#[63]⟩] w fun e w' => e = .returned (.int .i64 (Tg.ahead Tg.qm s.data.toList)) ∧ Below w.heap.size w w' :=
  ahead_c s ⟨#[63]⟩ Tg.qm w hs (fun c => by simp [Tg.qm, Bool.beq_eq_decide_eq]) (any_one s 63 (by decide) w)
theorem ahead_colon (s : ByteArray) (w : World) (hs : s.size ≤ 1000000) :
    Calls Tryz.prog 21 #[.string s, .string ⟨#[58]⟩] w fun e w' => e = .returned (.int .i64 (Tg.ahead Tg.colon s.data.toList)) ∧ Below w.heap.size w w' :=
  ahead_c s ⟨#[58]⟩ Tg.colon w hs (fun c => by simp [Tg.colon, Bool.beq_eq_decide_eq]) (any_one s 58 (by decide) w)
theorem ahead_sq (s : ByteArray) (w : World) (hs : s.size ≤ 1000000) :
    Calls Tryz.prog 21 #[.string s, .string ⟨#[47, 63]⟩] w fun e w' => e = .returned (.int .i64 (Tg.ahead Tg.sq s.data.toList)) ∧ Below w.heap.size w w' :=
  ahead_c s ⟨#[47, 63]⟩ Tg.sq w hs (fun c => by simp [Tg.sq, Bool.beq_eq_decide_eq]) (any_all s w hs)

theorem toList_beq (s : ByteArray) (l : List UInt8) (t : ByteArray) (h : t.toList = l) : (s.toList == t.toList) = (s.data.toList == l) := by rw [h, Lib.toList_data]

set_option maxHeartbeats 800000 in
theorem absolute_s (s : ByteArray) (w : World) (hs : s.size ≤ 1000000) :
    Calls Tryz.prog 20 #[.string s] w fun e w' => e = .returned (.bool (Tg.http s.data.toList)) ∧ Below w.heap.size w w' := by
  have hl : s.data.toList.length = s.size := by simp
  by_cases h7 : 7 ≤ s.size
  · have h7i : (7 : Int) ≤ s.size := by omega
    have cL := fun w => Lower_s (s.extract 0 7) w (by simp; omega)
    have e7 : (s.extract 0 7).data.toList = s.data.toList.take 7 := by rw [Lib.extract_data]; simp
    rw [e7] at cL
    have HR : Hid (Tg.http s.data.toList = ((str (Oct.lower (s.data.toList.take 7))).toList == (⟨#[104, 116, 116, 112, 58, 47, 47]⟩ : ByteArray).toList)) := by
      unfold Tg.http
      rw [hl, decide_eq_true h7, str_toList, Lib.toList_data]; exact Lib.hid rfl
    generalize str (Oct.lower (s.data.toList.take 7)) = t at *
    clear e7 hl
    go_enter Tryz.func20, Tryz.ntmps20
    go_wp2_with fail
    refine (cL _).mono ?_
    rintro e w1 ⟨rfl, hb⟩
    go_wp2_with fail
    all_goals go_ret
    all_goals exact ⟨ret_bool (by rw [HR.out] <;> first | rfl | simp_all), hb⟩
  · have h7i : ¬ (7 : Int) ≤ s.size := by omega
    have HR : Hid (Tg.http s.data.toList = false) := by unfold Tg.http; rw [hl, decide_eq_false h7]; exact Lib.hid rfl
    clear hl
    go_enter Tryz.func20, Tryz.ntmps20
    go_wp2_with fail
    go_ret
    exact ⟨ret_bool HR.out.symm, Below.refl _ _⟩

/-- A number, or none, and whether it is one. -/
def pres : Option Int → Value
  | none => .tuple #[.int .i64 0, .bool false]
  | some k => .tuple #[.int .i64 k, .bool true]
theorem trim_pre (s : ByteArray) (d : UInt8) : (⟨(Lib.trimPrefix s.data.toList [d]).toArray⟩ : ByteArray) = str (if s.data.toList.head? = some d then s.data.toList.drop 1 else s.data.toList) := by
  unfold Lib.trimPrefix Lib.hasPrefix
  cases h : s.data.toList with
  | nil => rfl
  | cons c t =>
    by_cases hc : c = d
    · subst hc; simp [List.isPrefixOf, str]
    · have hc2 : ¬ d = c := fun e => hc e.symm
      simp [List.isPrefixOf, str, hc, hc2]
end Go.Proofs.YtlikjfemkadciaaGreatDoor
