/- Package target: ports and hosts. -/
import Derived.Test.YtlikjfemkadciaaGreatDoorTg3
namespace Go.Proofs.YtlikjfemkadciaaGreatDoor
open Go.RowKit

def freeS : List UInt8 := [48, 49, 50, 51, 52, 53, 54, 55, 56, 57, 97, 98, 99, 100, 101, 102, 103, 104, 105, 106, 107, 108, 109, 110, 111, 112, 113, 114, 115, 116, 117, 118, 119, 120, 121, 122, 65, 66, 67, 68, 69, 70, 71, 72, 73, 74, 75, 76, 77, 78, 79, 80, 81, 82, 83, 84, 85, 86, 87, 88, 89, 90, 45, 46, 95, 126]
def markS : List UInt8 := [33, 36, 38, 39, 40, 41, 42, 43, 44, 59, 61]
def pathS : List UInt8 := [33, 36, 38, 39, 40, 41, 42, 43, 44, 59, 61, 58, 64, 47]
def queryS : List UInt8 := [33, 36, 38, 39, 40, 41, 42, 43, 44, 59, 61, 58, 64, 47, 63]
def numS : List UInt8 := [48, 49, 50, 51, 52, 53, 54, 55, 56, 57, 97, 98, 99, 100, 101, 102, 65, 66, 67, 68, 69, 70, 58, 46]
theorem lit_free : (⟨(([48, 49, 50, 51, 52, 53, 54, 55, 56, 57, 97, 98, 99, 100, 101, 102, 103, 104, 105, 106, 107, 108, 109, 110, 111, 112, 113, 114, 115, 116, 117, 118, 119] : List UInt8).append [120, 121, 122, 65, 66, 67, 68, 69, 70, 71, 72, 73, 74, 75, 76, 77, 78, 79, 80, 81, 82, 83, 84, 85, 86, 87, 88, 89, 90, 45, 46, 95, 126]).toArray⟩ : ByteArray) = str freeS := rfl
theorem in_free (c : UInt8) : inSets [freeS] c = Tg.free c := by
  have := Oct.all_octets (fun c => decide (inSets [freeS] c = Tg.free c)) (by decide +kernel) c
  exact of_decide_eq_true this
theorem in_host (c : UInt8) : inSets [freeS, markS] c = Tg.hostc c := by
  have := Oct.all_octets (fun c => decide (inSets [freeS, markS] c = Tg.hostc c)) (by decide +kernel) c
  exact of_decide_eq_true this
theorem in_path (c : UInt8) : inSets [freeS, pathS] c = Tg.pathc c := by
  have := Oct.all_octets (fun c => decide (inSets [freeS, pathS] c = Tg.pathc c)) (by decide +kernel) c
  exact of_decide_eq_true this
theorem in_query (c : UInt8) : inSets [freeS, queryS] c = Tg.queryc c := by
  have := Oct.all_octets (fun c => decide (inSets [freeS, queryS] c = Tg.queryc c)) (by decide +kernel) c
  exact of_decide_eq_true this
theorem in_num (c : UInt8) : inSets [numS] c = Tg.numc c := by
  have := Oct.all_octets (fun c => decide (inSets [numS] c = Tg.numc c)) (by decide +kernel) c
  exact of_decide_eq_true this

theorem only_num (s x : ByteArray) (w : World) (hx : x = str numS) (hs : s.size ≤ 1000000) :
    Calls Tryz.prog 60 #[.string s, .slice (some ⟨w.heap.size, 0, none⟩) 1 1] (w.alloc (.cells #[.string x] 9)) fun e w' => e = .returned (.bool (Oct.allOf Tg.numc s.data.toList)) ∧ Below w.heap.size w w' := by
  refine (only_s Tg.numc s _ _ _ (SIn.one w x numS hx) (by decide) in_num hs).mono ?_
  rintro e w' ⟨he, rfl⟩
  exact ⟨he, (Below.refl _ _).alloc (Nat.le_refl _) _⟩
theorem only_host (s x y : ByteArray) (w : World) (hx : x = str freeS) (hy : y = str markS) (hs : s.size ≤ 1000000) :
    Calls Tryz.prog 60 #[.string s, .slice (some ⟨w.heap.size, 0, none⟩) 2 2] (w.alloc (.cells #[.string x, .string y] 9)) fun e w' => e = .returned (.bool (Oct.allOf Tg.hostc s.data.toList)) ∧ Below w.heap.size w w' := by
  refine (only_s Tg.hostc s _ _ _ (SIn.two w x y freeS markS hx hy) (by decide) in_host hs).mono ?_
  rintro e w' ⟨he, rfl⟩
  exact ⟨he, (Below.refl _ _).alloc (Nat.le_refl _) _⟩
theorem in_freeS (c : UInt8) (x : ByteArray) (w : World) (hx : x = str freeS) :
    Calls Tryz.prog 78 #[.int .u8 c.toNat, .slice (some ⟨w.heap.size, 0, none⟩) 1 1] (w.alloc (.cells #[.string x] 9)) fun e w' => e = .returned (.bool (Tg.free c)) ∧ Below w.heap.size w w' := by
  refine (in_s c _ _ _ (SIn.one w x freeS hx) (by decide)).mono ?_
  rintro e w' ⟨he, rfl⟩
  rw [in_free] at he
  exact ⟨he, (Below.refl _ _).alloc (Nat.le_refl _) _⟩

set_option maxHeartbeats 800000 in
theorem portOf_s (s : ByteArray) (w : World) (hs : s.size ≤ 1000000) :
    Calls Tryz.prog 38 #[.string s] w fun e w' => (∃ k b, e = .returned (.tuple #[.int .i64 k, .bool b]) ∧ Tg.portOf s.data.toList = if b then some k else none) ∧ Below w.heap.size w w' := by
  have cT := fun w => Tryz.strings_TrimPrefix s ⟨#[58]⟩ w
  have e1 : (⟨(Lib.trimPrefix s.data.toList (⟨#[58]⟩ : ByteArray).data.toList).toArray⟩ : ByteArray) = str (Tg.trim58 s.data.toList) := trim_pre s 58
  rw [e1] at cT
  have hz : (Tg.trim58 s.data.toList).length ≤ s.size := by unfold Tg.trim58; split <;> simp
  have HP : Hid (Tg.portOf s.data.toList = Tg.portV (Tg.trim58 s.data.toList)) := Lib.hid rfl
  generalize Tg.trim58 s.data.toList = t at *
  have hts := str_size t
  have htl := str_toList t
  obtain ⟨a, e, hae⟩ : ∃ a e, Oct.number 10 65535 t = (a, e) := ⟨_, _, rfl⟩
  have cN := fun w => Number_is (str t) 65535 a e w (by omega) (by decide) (by decide) (by rw [str_list]; exact hae)
  have HV : Hid (Tg.portV t = if t = [] then some 80 else if e = 0 ∧ t.length ≤ 5 then some a else none) := by unfold Tg.portV; rw [hae]; exact Lib.hid rfl
  by_cases ht : t = []
  · subst ht
    have HR : Hid (Tg.portOf s.data.toList = some 80) := by rw [HP.out, HV.out]; exact Lib.hid rfl
    have e0 : str [] = ⟨#[]⟩ := rfl
    rw [e0] at cT
    clear cN hts htl HP HV e1 hae
    go_enter Tryz.func38, Tryz.ntmps38
    go_wp2_with fail
    refine (cT _).mono ?_
    rintro e w1 ⟨rfl, rfl⟩
    go_wp2_with fail
    go_ret2
    exact ⟨⟨80, true, rfl, HR.out⟩, Below.refl _ _⟩
  · have b1 : (str t).toList.isEmpty = false := by rw [htl]; cases t with
      | nil => exact absurd rfl ht
      | cons _ _ => rfl
    have HR : Hid (Tg.portOf s.data.toList = if e = 0 ∧ t.length ≤ 5 then some a else none) := by rw [HP.out, HV.out, if_neg ht]; exact Lib.hid rfl
    generalize str t = x at *
    clear HP HV e1 hae htl ht
    by_cases he : e = 0
    · subst he
      by_cases h5 : t.length ≤ 5
      · have HR2 : Hid (Tg.portOf s.data.toList = some a) := by rw [HR.out, if_pos ⟨rfl, h5⟩]; exact Lib.hid rfl
        have h5x : (x.size : Int) ≤ 5 := by omega
        clear HR h5 hts
        go_enter Tryz.func38, Tryz.ntmps38
        go_wp2_with fail
        refine (cT _).mono ?_
        rintro e w1 ⟨rfl, rfl⟩
        go_wp2_with fail
        refine (cN _).mono ?_
        rintro e w1 ⟨rfl, hb⟩
        go_wp2_with fail
        go_ret2
        exact ⟨⟨_, true, rfl, HR2.out⟩, hb⟩
      · have HR2 : Hid (Tg.portOf s.data.toList = none) := by rw [HR.out, if_neg (fun e => h5 e.2)]; exact Lib.hid rfl
        have h5x : ¬ (x.size : Int) ≤ 5 := by omega
        clear HR h5 hts
        go_enter Tryz.func38, Tryz.ntmps38
        go_wp2_with fail
        refine (cT _).mono ?_
        rintro e w1 ⟨rfl, rfl⟩
        go_wp2_with fail
        refine (cN _).mono ?_
        rintro e w1 ⟨rfl, hb⟩
        go_wp2_with fail
        go_ret2
        exact ⟨⟨_, _, rfl, by rw [HR2.out, decide_eq_false (Int.not_le.2 h5x)]; rfl⟩, hb⟩
    · have HR2 : Hid (Tg.portOf s.data.toList = none) := by rw [HR.out, if_neg (fun h => he h.1)]; exact Lib.hid rfl
      have b2 : (e == 0) = false := beq_eq_false_iff_ne.2 he
      clear HR he hts
      go_enter Tryz.func38, Tryz.ntmps38
      go_wp2_with fail
      refine (cT _).mono ?_
      rintro e w1 ⟨rfl, rfl⟩
      go_wp2_with fail
      refine (cN _).mono ?_
      rintro e w1 ⟨rfl, hb⟩
      go_wp2_with fail
      go_ret2
      exact ⟨⟨_, false, rfl, HR2.out⟩, hb⟩

theorem suf_93 (t : List UInt8) : Lib.hasSuffix t [93] = (t.getLast? == some 93) := by
  rcases t.eq_nil_or_concat with rfl | ⟨i, c, rfl⟩
  · rfl
  · rw [List.concat_eq_append, List.getLast?_concat]
    unfold Lib.hasSuffix
    have : [93].isSuffixOf (i ++ [c]) = ((93 : UInt8) == c) := by simp [List.isSuffixOf, List.isPrefixOf]
    rw [this, Bool.eq_iff_iff, beq_iff_eq, beq_iff_eq, Option.some.injEq]; exact eq_comm
theorem tsuf_93 (t : List UInt8) (h : t.getLast? = some 93) : Lib.trimSuffix t [93] = t.dropLast := by
  unfold Lib.trimSuffix
  rw [suf_93, h, if_pos (by simp)]
  rw [List.dropLast_eq_take]; rfl

set_option maxHeartbeats 1600000 in
set_option maxRecDepth 100000 in
theorem isHost_s (s : ByteArray) (w : World) (hs : s.size ≤ 1000000) :
    Calls Tryz.prog 39 #[.string s] w fun e w' => e = .returned (.bool (Tg.isHost s.data.toList)) ∧ Below w.heap.size w w' := by
  obtain ⟨l, hl⟩ : ∃ l, s.data.toList = l := ⟨_, rfl⟩
  have hsl : s = str l := str_same hl
  have hll : l.length ≤ 1000000 := by rw [← hl]; simpa using hs
  have cP := fun w => Tryz.strings_CutPrefix s ⟨#[91]⟩ w
  have cH := fun (x y : ByteArray) (w : World) (hx : x = str freeS) (hy : y = str markS) => only_host s x y w hx hy hs
  rw [hl] at cP cH ⊢
  cases l with
  | nil =>
    subst hsl
    have e0 : str [] = ⟨#[]⟩ := rfl
    rw [e0] at *
    go_enter Tryz.func39, Tryz.ntmps39
    rw [lit_free]
    go_wp2_with fail
    refine (cP _).mono ?_
    rintro e w1 ⟨rfl, rfl⟩
    go_wp2_with fail
    go_ret
    exact ⟨rfl, Below.refl _ _⟩
  | cons c t =>
    by_cases hc : c = 91
    · subst hc
      have hp : Lib.hasPrefix (91 :: t) (⟨#[91]⟩ : ByteArray).data.toList = true := by simp [Lib.hasPrefix, List.isPrefixOf]
      have ht : (⟨(Lib.trimPrefix (91 :: t) (⟨#[91]⟩ : ByteArray).data.toList).toArray⟩ : ByteArray) = str t := by unfold Lib.trimPrefix; rw [hp]; rfl
      rw [hp, ht] at cP
      have htz := str_size t
      have hll : t.length ≤ 1000000 := by simp at hll; omega
      have cS := fun w => Tryz.strings_CutSuffix (str t) ⟨#[93]⟩ w (by omega)
      rw [str_list] at cS
      have e93 : (⟨#[93]⟩ : ByteArray).data.toList = [93] := rfl
      rw [e93, suf_93] at cS
      by_cases h93 : t.getLast? = some 93
      · have b93 : (t.getLast? == some 93) = true := by rw [h93]; rfl
        rw [tsuf_93 t h93, b93] at cS
        have cS2 : ∀ w, Calls Tryz.prog 59 #[.string (str t), .string ⟨#[93]⟩] w fun e w' => e = .returned (.tuple #[.string (str t.dropLast), .bool true]) ∧ w' = w := cS
        have HR : Hid (Tg.isHost (91 :: t) = (decide (2 ≤ t.length) && Oct.allOf Tg.numc t.dropLast)) := by
          rw [Tg.isHost_cons, if_pos rfl, b93, Bool.and_true]; exact Lib.hid rfl
        have hdl : t.dropLast.length = t.length - 1 := List.length_dropLast
        have cN := fun (x : ByteArray) (w : World) (hx : x = str numS) => only_num (str t.dropLast) x w hx (by rw [str_size]; omega)
        rw [str_list] at cN
        by_cases h2 : 2 ≤ t.length
        · have HR2 : Hid (Tg.isHost (91 :: t) = Oct.allOf Tg.numc t.dropLast) := by rw [HR.out, decide_eq_true h2]; exact Lib.hid rfl
          have b1 : (str t.dropLast).toList.isEmpty = false := by
            rw [str_toList]
            cases hd : t.dropLast with
            | nil => rw [hd] at hdl; simp at hdl; omega
            | cons _ _ => rfl
          generalize str t.dropLast = y at *
          generalize str t = x at *
          clear cS HR h2 hdl ht hp hl hsl hll htz h93 b93 cH
          go_enter Tryz.func39, Tryz.ntmps39
          rw [lit_free]
          go_wp2_with fail
          refine (cP _).mono ?_
          rintro e w1 ⟨rfl, rfl⟩
          go_wp2_with fail
          refine (cS2 _).mono ?_
          rintro e w1 ⟨rfl, rfl⟩
          go_wp2_with fail
          refine (cN _ _ (by rfl)).mono ?_
          rintro e w1 ⟨rfl, hb⟩
          go_wp2_with fail
          go_ret
          exact ⟨ret_bool HR2.out.symm, hb⟩
        · have HR2 : Hid (Tg.isHost (91 :: t) = false) := by rw [HR.out, decide_eq_false h2]; exact Lib.hid rfl
          have e0 : str t.dropLast = ⟨#[]⟩ := by rw [List.eq_nil_of_length_eq_zero (l := t.dropLast) (by omega)]; rfl
          rw [e0] at cS2
          generalize str t = x at *
          clear cS HR h2 hdl ht hp hl hsl hll htz h93 b93 cH cN e0
          go_enter Tryz.func39, Tryz.ntmps39
          rw [lit_free]
          go_wp2_with fail
          refine (cP _).mono ?_
          rintro e w1 ⟨rfl, rfl⟩
          go_wp2_with fail
          refine (cS2 _).mono ?_
          rintro e w1 ⟨rfl, rfl⟩
          go_wp2_with fail
          go_ret
          exact ⟨ret_bool HR2.out.symm, Below.refl _ _⟩
      · have b93 : (t.getLast? == some 93) = false := beq_eq_false_iff_ne.2 h93
        rw [b93] at cS
        have HR2 : Hid (Tg.isHost (91 :: t) = false) := by rw [Tg.isHost_cons, if_pos rfl, b93]; simp; exact Lib.hid trivial
        generalize (⟨(Lib.trimSuffix t [93]).toArray⟩ : ByteArray) = y at *
        generalize str t = x at *
        clear ht hp hl hsl hll htz h93 b93 cH
        go_enter Tryz.func39, Tryz.ntmps39
        rw [lit_free]
        go_wp2_with fail
        refine (cP _).mono ?_
        rintro e w1 ⟨rfl, rfl⟩
        go_wp2_with fail
        refine (cS _).mono ?_
        rintro e w1 ⟨rfl, rfl⟩
        go_wp2_with fail
        go_ret
        exact ⟨ret_bool HR2.out.symm, Below.refl _ _⟩
    · have hc2 : ¬ 91 = c := fun e => hc e.symm
      have hp : Lib.hasPrefix (c :: t) (⟨#[91]⟩ : ByteArray).data.toList = false := by simp [Lib.hasPrefix, List.isPrefixOf, hc2]
      rw [hp] at cP
      have HR2 : Hid (Tg.isHost (c :: t) = Oct.allOf Tg.hostc (c :: t)) := by rw [Tg.isHost_cons, if_neg hc]; exact Lib.hid rfl
      have b1 : s.toList.isEmpty = false := by rw [Lib.toList_data, hl]; rfl
      generalize (⟨(Lib.trimPrefix (c :: t) (⟨#[91]⟩ : ByteArray).data.toList).toArray⟩ : ByteArray) = y at *
      clear hp hl hsl hll
      go_enter Tryz.func39, Tryz.ntmps39
      rw [lit_free]
      go_wp2_with fail
      refine (cP _).mono ?_
      rintro e w1 ⟨rfl, rfl⟩
      go_wp2_with fail
      refine (cH _ _ _ (by rfl) (by rfl)).mono ?_
      rintro e w1 ⟨rfl, hb⟩
      go_wp2_with fail
      go_ret
      exact ⟨ret_bool HR2.out.symm, hb⟩
end Go.Proofs.YtlikjfemkadciaaGreatDoor
