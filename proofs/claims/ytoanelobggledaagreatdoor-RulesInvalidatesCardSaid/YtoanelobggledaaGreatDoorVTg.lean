/- A URI by value. -/
import Derived.Test.YtoanelobggledaaGreatDoorVM2
import Derived.Test.YtoanelobggledaaGreatDoorVCt
import Derived.Lib.LastIndexByte
import Derived.Lib.MapLaws
import Derived.Lib.SpaceUEq
namespace Go.Proofs.YtoanelobggledaaGreatDoor
open Go.RowKit
def uval (u : Tg.U) : Value := .agg #[.string (str u.host), .int .i64 u.port, .string (str u.path)]
theorem uval_mk (h : List UInt8) (k : Int) (p : List UInt8) : uval ⟨h, k, p⟩ = .agg #[.string (str h), .int .i64 k, .string (str p)] := rfl
end Go.Proofs.YtoanelobggledaaGreatDoor

namespace Go.Proofs.YtoanelobggledaaGreatDoor
open Go.RowKit

theorem app_data (a b : ByteArray) : (a ++ b).data.toList = a.data.toList ++ b.data.toList := by simp
theorem bt' {a b c : World} (h : Below a.heap.size a b) (h' : Below b.heap.size b c) : Below a.heap.size a c := h.trans (h'.mono h.size)
theorem byte_back (c : UInt8) : ((c.toNat : Int)).toNat.toUInt8 = c := by simp
def inSets (ls : List (List UInt8)) (c : UInt8) : Bool := ls.any (·.contains c)
theorem inSets_snoc (ls : List (List UInt8)) (k : Nat) (h : k < ls.length) (c : UInt8) : inSets (ls.take (k + 1)) c = (inSets (ls.take k) c || ls[k].contains c) := by
  unfold inSets
  rw [List.take_succ_eq_append_getElem h, List.any_append]; simp only [List.any_cons, List.any_nil, Bool.or_false]
theorem inSets_hit (ls : List (List UInt8)) (k : Nat) (h : k < ls.length) (c : UInt8) (hc : ls[k].contains c = true) : inSets ls c = true := by
  unfold inSets
  exact List.any_eq_true.2 ⟨ls[k], List.getElem_mem h, hc⟩
set_option maxHeartbeats 800000 in
set_option maxRecDepth 100000 in
theorem in_s (c : UInt8) (v : Value) (ls : List (List UInt8)) (w : World) (hv : SIn w v ls) (hn : ls.length ≤ 100000) :
    Calls Tryz.prog 232 #[.int .u8 c.toNat, v] w fun e w' => e = .returned (.bool (inSets ls c)) ∧ w = w' := by
  obtain ⟨ao, cap, rfl, hc⟩ := hv
  obtain ⟨n, hnn⟩ : ∃ n, n = ls.length := ⟨_, rfl⟩
  rw [← hnn] at hn ⊢
  have HC := Lib.hid hc
  have HN := Lib.hid hnn
  clear hc hnn
  go_enter Tryz.func232, Tryz.ntmps232
  go_wp2_with fail
  go_loop [9] (fun i => ∃ k : Nat, k ≤ n ∧ i = .int .i64 k ∧ Hid (inSets (ls.take k) c = false)) (fun i => n - (intOf i).toNat)
  case atStart => exact ⟨0, by omega, rfl, Lib.hid rfl⟩
  case round =>
    obtain ⟨k, hk, rfl, HA⟩ := hrel
    by_cases hlt : k < n
    · have hkl : k < ls.length := by have := HN.out; omega
      obtain ⟨b, o, hao, _, hcell⟩ := HC.out.resolve_left (fun e => by rw [e] at hkl; cases hkl)
      subst hao
      have c1 := hcell k hkl
      have hI := fun w => Tryz.strings_IndexByte (str ls[k]) c.toNat w
      rw [str_list, byte_back] at hI
      have hcon := Lib.contains_iff_indexByte ls[k] c
      have HS := Lib.hid (inSets_snoc ls k hkl c)
      have HH := Lib.hid (inSets_hit ls k hkl c)
      generalize str ls[k] = x at *
      generalize Lib.indexByte ls[k] c = X at *
      generalize ls[k].contains c = tk at *
      clear hcell hkl
      cases tk with
      | false =>
        have hX : ¬ ((0 : Int) ≤ X) := of_decide_eq_false hcon.symm
        clear hcon
        go_wp2_with fail
        refine (hI _).mono ?_
        rintro e w' ⟨rfl, rfl⟩
        go_wp2_with fail
        go_round
        case rel => exact ⟨k + 1, by omega, by go_num, Lib.hid (by rw [HS.out, HA.out]; rfl)⟩
        case measure => simp [intOf]; omega
      | true =>
        have hX : (0 : Int) ≤ X := of_decide_eq_true hcon.symm
        have HR := Lib.hid (HH.out rfl)
        clear hcon HS HH
        go_wp2_with fail
        refine (hI _).mono ?_
        rintro e w' ⟨rfl, rfl⟩
        go_wp2_with fail
        go_ret
        exact ⟨ret_bool HR.out.symm, rfl⟩
    · have HE : Hid (ls.take k = ls) := List.take_of_length_le (by have := HN.out; omega)
      go_wp2_with fail
      go_ret
      exact ⟨ret_bool (by rw [← HA.out, HE.out]), rfl⟩
set_option maxHeartbeats 800000 in
set_option maxRecDepth 100000 in
theorem only_s (p : UInt8 → Bool) (s : ByteArray) (v : Value) (ls : List (List UInt8)) (w : World) (hv : SIn w v ls) (hn : ls.length ≤ 100000) (hp : ∀ c, inSets ls c = p c) (hs : s.size ≤ 1000000) :
    Calls Tryz.prog 208 #[.string s, v] w fun e w' => e = .returned (.bool (Oct.allOf p s.data.toList)) ∧ w = w' := by
  have cI := fun c => in_s c v ls w hv hn
  simp only [hp] at cI
  clear hv hp
  go_enter Tryz.func208, Tryz.ntmps208
  go_wp2_with fail
  go_loop [8] (fun i => ∃ k : Nat, k ≤ s.size ∧ i = .int .i64 k ∧ Hid (Oct.allOf p (s.data.toList.take k) = true)) (fun i => s.size - (intOf i).toNat)
  case atStart => exact ⟨0, by omega, rfl, Lib.hid rfl⟩
  case round =>
    obtain ⟨k, hk, rfl, HA⟩ := hrel
    by_cases hlt : k < s.size
    · have HN := Lib.hid (Oct.all_snoc p s k hlt)
      have HM := Lib.hid (Oct.all_miss p s k hlt)
      have cI := cI s[k]
      cases hp : p s[k] with
      | true =>
        rw [hp] at HN cI
        clear hp
        go_wp2_with fail
        refine cI.mono ?_
        rintro e w' ⟨rfl, rfl⟩
        go_wp2_with fail
        go_round
        case rel => exact ⟨k + 1, by omega, by go_num, Lib.hid (by rw [HN.out, HA.out]; rfl)⟩
        case measure => simp [intOf]; omega
      | false =>
        have HR := Lib.hid (HM.out hp)
        rw [hp] at cI
        clear hp
        go_wp2_with fail
        refine cI.mono ?_
        rintro e w' ⟨rfl, rfl⟩
        go_wp2_with fail
        go_ret
        exact ⟨ret_bool HR.out.symm, rfl⟩
    · have HE := Lib.hid (Oct.take_all s k (by omega))
      go_wp2_with fail
      go_ret
      exact ⟨ret_bool (by rw [← HA.out, HE.out]), rfl⟩
def longL (ls : List (List UInt8)) : Bool := ls.any fun l => decide (8000 < l.length)
theorem longL_snoc (ls : List (List UInt8)) (k : Nat) (h : k < ls.length) : longL (ls.take (k + 1)) = (longL (ls.take k) || decide (8000 < ls[k].length)) := by
  unfold longL
  rw [List.take_succ_eq_append_getElem h, List.any_append]; simp only [List.any_cons, List.any_nil, Bool.or_false]
theorem longL_hit (ls : List (List UInt8)) (k : Nat) (h : k < ls.length) (hc : 8000 < ls[k].length) : longL ls = true := by
  unfold longL
  exact List.any_eq_true.2 ⟨ls[k], List.getElem_mem h, decide_eq_true hc⟩
set_option maxHeartbeats 800000 in
set_option maxRecDepth 100000 in
theorem long_s (v : Value) (ls : List (List UInt8)) (w : World) (hv : SIn w v ls) (hn : ls.length ≤ 100000) :
    Calls Tryz.prog 123 #[v] w fun e w' => e = .returned (.bool (longL ls)) ∧ w = w' := by
  obtain ⟨ao, cap, rfl, hc⟩ := hv
  obtain ⟨n, hnn⟩ : ∃ n, n = ls.length := ⟨_, rfl⟩
  rw [← hnn] at hn ⊢
  have HC := Lib.hid hc
  have HN := Lib.hid hnn
  clear hc hnn
  go_enter Tryz.func123, Tryz.ntmps123
  go_wp2_with fail
  go_loop [7] (fun i => ∃ k : Nat, k ≤ n ∧ i = .int .i64 k ∧ Hid (longL (ls.take k) = false)) (fun i => n - (intOf i).toNat)
  case atStart => exact ⟨0, by omega, rfl, Lib.hid rfl⟩
  case round =>
    obtain ⟨k, hk, rfl, HA⟩ := hrel
    by_cases hlt : k < n
    · have hkl : k < ls.length := by have := HN.out; omega
      obtain ⟨b, o, hao, _, hcell⟩ := HC.out.resolve_left (fun e => by rw [e] at hkl; cases hkl)
      subst hao
      have c1 := hcell k hkl
      have hsz := str_size ls[k]
      have HS := Lib.hid (longL_snoc ls k hkl)
      have HH := Lib.hid (longL_hit ls k hkl)
      generalize str ls[k] = x at *
      generalize ls[k].length = X at *
      clear hcell hkl
      by_cases h8 : 8000 < X
      · have hX : (8000 : Int) < x.size := by omega
        clear hsz
        have HR := Lib.hid (HH.out h8)
        clear h8
        go_wp2_with fail
        go_ret
        exact ⟨ret_bool HR.out.symm, rfl⟩
      · have hX : ¬ ((8000 : Int) < x.size) := by omega
        clear hsz
        have HR : Hid (longL (ls.take (k + 1)) = false) := by rw [HS.out, HA.out, decide_eq_false h8]; exact Lib.hid rfl
        clear h8
        go_wp2_with fail
        go_round
        case rel => exact ⟨k + 1, by omega, by go_num, HR⟩
        case measure => simp [intOf]; omega
    · have HE : Hid (ls.take k = ls) := List.take_of_length_le (by have := HN.out; omega)
      go_wp2_with fail
      go_ret
      exact ⟨ret_bool (by rw [← HA.out, HE.out]), rfl⟩
end Go.Proofs.YtoanelobggledaaGreatDoor

namespace Go.Proofs.YtoanelobggledaaGreatDoor
open Go.RowKit

theorem ahead_index (p : UInt8 → Bool) (chars : List UInt8) (h : ∀ c, chars.contains c = p c) : ∀ l : List UInt8, (Lib.indexAny l chars = -1 ∧ Tg.ahead p l = l.length) ∨ (0 ≤ Lib.indexAny l chars ∧ Lib.indexAny l chars = Tg.ahead p l)
  | [] => .inl ⟨rfl, rfl⟩
  | b :: t => by
    unfold Lib.indexAny Tg.ahead
    rw [h b]
    by_cases hb : p b = true
    · rw [if_pos hb, if_pos hb]; exact .inr ⟨by decide, rfl⟩
    · rw [if_neg hb, if_neg hb]
      rcases ahead_index p chars h t with ⟨h1, h2⟩ | ⟨h1, h2⟩
      · rw [h1, h2, if_pos (by decide)]; exact .inl ⟨rfl, by simp⟩
      · rw [if_neg (by intro e; have := beq_iff_eq.1 e; omega)]; exact .inr ⟨by omega, by omega⟩
theorem enc_cases2 (r : Int) (hv : Utf8.valid r = true) (h128 : 128 ≤ r) :
    (∃ a c : UInt8, Utf8.encode r = ⟨#[a, c]⟩ ∧ 128 ≤ c.toNat) ∨ (∃ a b c : UInt8, Utf8.encode r = ⟨#[a, b, c]⟩ ∧ 128 ≤ c.toNat) ∨ (∃ a b d c : UInt8, Utf8.encode r = ⟨#[a, b, d, c]⟩ ∧ 128 ≤ c.toNat) := by
  have hc : ¬ r.toNat < 128 := by omega
  unfold Utf8.encode
  simp only [hv, if_true, hc, if_false]
  split
  · exact .inl ⟨_, _, rfl, by simp; omega⟩
  · split
    · exact .inr (.inl ⟨_, _, _, rfl, by simp; omega⟩)
    · exact .inr (.inr ⟨_, _, _, _, rfl, by simp; omega⟩)
set_option maxHeartbeats 1600000 in
set_option maxRecDepth 1000000 in
theorem rune_bad (x : Nat) (w : World) (h1 : 55296 ≤ x) (h2 : x ≤ 57343) :
    Calls Tryz.prog 198 #[.string ⟨#[47, 63]⟩, .int .i32 x] w fun e w' => e = .returned (.int .i64 (-1)) ∧ Below w.heap.size w w' := by
  have hv : Lib.validRune (x : Int) = false := by unfold Lib.validRune; rw [decide_eq_false]; omega
  have hne : ((x : Int) == 65533) = false := beq_eq_false_iff_ne.2 (by omega)
  have hV := Tryz.utf8_ValidRune x
  rw [hv] at hV
  clear hv
  go_enter Tryz.func198, Tryz.ntmps198
  go_wp2_with fail
  refine (hV _).mono ?_
  rintro e w' ⟨rfl, rfl⟩
  go_wp2_with fail
  go_ret
  exact ⟨rfl, Below.refl _ _⟩
set_option maxHeartbeats 1600000 in
set_option maxRecDepth 1000000 in
theorem rune_err (w : World) :
    Calls Tryz.prog 198 #[.string ⟨#[47, 63]⟩, .int .i32 65533] w fun e w' => e = .returned (.int .i64 (-1)) ∧ Below w.heap.size w w' := by
  go_enter Tryz.func198, Tryz.ntmps198
  go_wp2_with fail
  go_loopg [] 3 (fun gf wx => ∃ pos : Nat, pos + gf = 3 ∧ pos ≤ 2 ∧ wx = w.iter ⟨#[47, 63]⟩ pos)
  case atStart => exact ⟨0, by omega, by omega, rfl⟩
  case round =>
    obtain ⟨pos, hg, hp, rfl⟩ := hrel
    have : pos = 0 ∨ pos = 1 ∨ pos = 2 := by omega
    rcases this with rfl | rfl | rfl
    · obtain rfl : gk = 3 := by omega
      have hnx := fun ty => run_next_ascii (P := Tryz.prog) w ⟨#[47, 63]⟩ 0 ty (by decide) (by decide)
      go_wp2_with fail
      go_roundg 2
      case measure => omega
      case rel => exact ⟨1, by omega, by omega, rfl⟩
    · obtain rfl : gk = 2 := by omega
      have hnx := fun ty => run_next_ascii (P := Tryz.prog) w ⟨#[47, 63]⟩ 1 ty (by decide) (by decide)
      go_wp2_with fail
      go_roundg 1
      case measure => omega
      case rel => exact ⟨2, by omega, by omega, rfl⟩
    · have hnx := fun ty => run_next_end (P := Tryz.prog) w ⟨#[47, 63]⟩ 2 ty (by decide)
      go_wp2_with fail
      go_ret
      exact ⟨rfl, (Below.refl _ _).alloc (Nat.le_refl _) _⟩
theorem ix_tail2 (c : UInt8) (w : World) (s : ByteArray) (hs : s.data.toList = []) :
    Calls Tryz.prog 177 #[.string s, .int .u8 c.toNat] w fun e w' => e = .returned (.int .i64 (-1)) ∧ w = w' := by
  refine (Tryz.strings_IndexByte s c.toNat w).mono ?_
  rintro e w' ⟨rfl, rfl⟩
  rw [hs]
  exact ⟨rfl, rfl⟩
set_option maxHeartbeats 1600000 in
set_option maxRecDepth 1000000 in
theorem rune_far (x : Nat) (w : World) (h1 : 128 ≤ x) (h2 : x < 55296 ∨ (57343 < x ∧ x ≤ 1114111)) (h3 : x ≠ 65533) :
    Calls Tryz.prog 198 #[.string ⟨#[47, 63]⟩, .int .i32 x] w fun e w' => e = .returned (.int .i64 (-1)) ∧ Below w.heap.size w w' := by
  have hv : Lib.validRune (x : Int) = true := by unfold Lib.validRune; rw [decide_eq_true]; omega
  have hne : ((x : Int) == 65533) = false := beq_eq_false_iff_ne.2 (by omega)
  have hV := Tryz.utf8_ValidRune x
  rw [hv] at hV
  clear hv
  have h4 : ¬ (x : Int) < 128 := by omega
  have hE := enc_cases2 x (by unfold Utf8.valid; simp; omega) (by omega)
  rcases hE with ⟨a, c, hE, hc⟩ | ⟨a, b, c, hE, hc⟩ | ⟨a, b, d, c, hE, hc⟩
  · have g3 : ((((⟨#[47, 63]⟩ : ByteArray)[1]'(by decide)).toNat : Int) != (((⟨#[a, c]⟩ : ByteArray)[1]'(by show 1 < 2; omega)).toNat : Int)) = true := by
      show ((63 : Int) != (c.toNat : Int)) = true
      rw [bne, beq_eq_false_iff_ne.2 (by omega : (63 : Int) ≠ c.toNat)]; rfl
    go_enter Tryz.func198, Tryz.ntmps198
    go_wp2_with fail
    refine (hV _).mono ?_
    rintro e w' ⟨rfl, rfl⟩
    go_wp2_with fail
    go_step3
    go_wp2_with fail
    refine wp_loop_rounds 1 ?_
    rw [rounds_succ]
    go_wp2_with fail
    go_step3
    go_wp2_with fail
    go_quiet (fail)
    have hbq := Go.below_drewN (Below.refl w'.heap.size w') nq
    generalize w'.drewN nq = w2 at hbq ⊢
    go_wp2_with fail
    have hw2 : IntKind.i64.wrap 2 = 2 := by decide
    go_quiet ((go_at_call 177; exact quiet _ (ix_tail2 c _ ByteArray.empty (by simp))))
    go_wp2_with fail
    rw [Exit.noGoto_ret]
    go_wp2_with fail
    rw [Exit.noGoto_ret]
    go_wp2_with fail
    go_ret
    exact ⟨rfl, Go.below_drewN hbq _⟩
  · go_enter Tryz.func198, Tryz.ntmps198
    go_wp2_with fail
    refine (hV _).mono ?_
    rintro e w' ⟨rfl, rfl⟩
    go_wp2_with fail
    go_step3
    go_wp2_with fail
    refine wp_loop_rounds 1 ?_
    rw [rounds_succ]
    go_wp2_with fail
    rw [Exit.noGoto_ret]
    go_wp2_with fail
    go_ret
    exact ⟨rfl, Below.refl _ _⟩
  · go_enter Tryz.func198, Tryz.ntmps198
    go_wp2_with fail
    refine (hV _).mono ?_
    rintro e w' ⟨rfl, rfl⟩
    go_wp2_with fail
    go_step3
    go_wp2_with fail
    refine wp_loop_rounds 1 ?_
    rw [rounds_succ]
    go_wp2_with fail
    rw [Exit.noGoto_ret]
    go_wp2_with fail
    go_ret
    exact ⟨rfl, Below.refl _ _⟩
theorem rune_not (x : Nat) (w : World) (h1 : 128 ≤ x) (h2 : x ≤ 1114111) :
    Calls Tryz.prog 198 #[.string ⟨#[47, 63]⟩, .int .i32 x] w fun e w' => e = .returned (.int .i64 (-1)) ∧ Below w.heap.size w w' := by
  by_cases h3 : x = 65533
  · subst h3; exact rune_err w
  · by_cases h4 : 55296 ≤ x ∧ x ≤ 57343
    · exact rune_bad x w h4.1 h4.2
    · exact rune_far x w h1 (by omega) h3
theorem decode_far (s : ByteArray) (i : Nat) (hi : i < s.size) (h : 128 ≤ (s[i]'hi).toNat) : 128 ≤ (Utf8.decode s i).1 ∧ (Utf8.decode s i).1 ≤ 1114111 ∧ 1 ≤ (Utf8.decode s i).2 ∧ i + (Utf8.decode s i).2 ≤ s.size ∧ ∀ j (hj : j < s.size), i ≤ j → j < i + (Utf8.decode s i).2 → 128 ≤ (s[j]'hj).toNat := by
  have hg : ∀ j (hj : j < s.size), (s.get! j) = s[j]'hj := fun j hj => by
    have : s.get! j = s.data[j]! := rfl
    rw [this, getElem!_pos s.data j (by simpa using hj)]; rfl
  have h0 : 128 ≤ (s.get! i).toNat := by rw [hg i hi]; exact h
  have hc := Lib.decodeN_conts (s.size - i) (s.get! i).toNat (s.get! (i + 1)).toNat (s.get! (i + 2)).toNat (s.get! (i + 3)).toNat
  have hs := Lib.decodeN_shape (s.size - i) (s.get! i).toNat (s.get! (i + 1)).toNat (s.get! (i + 2)).toNat (s.get! (i + 3)).toNat
  have hr := Lib.decodeN_rune_le (s.size - i) (s.get! i).toNat (s.get! (i + 1)).toNat (s.get! (i + 2)).toNat (s.get! (i + 3)).toNat (UInt8.toNat_lt _)
  have hw := Lib.decodeN_ge1 (s.size - i) (s.get! i).toNat (s.get! (i + 1)).toNat (s.get! (i + 2)).toNat (s.get! (i + 3)).toNat
  rw [← Lib.decode_at] at hc hs hr hw
  refine ⟨?_, hr, hw, by omega, ?_⟩
  · rcases hs with ⟨h1, _⟩ | ⟨_, _, _, h1, e⟩ | ⟨_, _, _, _, h1, _, e⟩ | ⟨_, _, _, _, _, h1, _, e⟩ | e
    · omega
    · rw [e]; exact h1
    · rw [e]; show 128 ≤ _; omega
    · rw [e]; show 128 ≤ _; omega
    · rw [e]; decide
  · intro j hj h1 h2
    rw [← hg j hj]
    have : j = i ∨ j = i + 1 ∨ j = i + 2 ∨ j = i + 3 := by omega
    rcases this with rfl | rfl | rfl | rfl
    · exact h0
    · have := hc.1 (by omega); omega
    · have := hc.2.1 (by omega); omega
    · have := hc.2.2.1 (by omega); omega
theorem noAny_skip {s : ByteArray} {i k : Nat} (h : Lib.NoAny s.data.toList [47, 63] i) (hb : ∀ j (hj : j < s.size), i ≤ j → j < i + k → 128 ≤ (s[j]'hj).toNat) : Lib.NoAny s.data.toList [47, 63] (i + k) := by
  intro j b hj hjb
  by_cases hlt : j < i
  · exact h j b hlt hjb
  · have hjs : j < s.size := by
      have := (List.getElem?_eq_some_iff.1 hjb).1
      rw [Lib.size_eq]; exact this
    have h1 := hb j hjs (by omega) hj
    have e : s[j]'hjs = b := by
      have := Lib.data_getElem? s j hjs
      rw [hjb] at this; exact (Option.some.inj this).symm
    rw [e] at h1
    have h2 : b ≠ 47 := by rintro rfl; revert h1; decide
    have h3 : b ≠ 63 := by rintro rfl; revert h1; decide
    simp [h2, h3]
set_option maxHeartbeats 4000000 in
set_option maxRecDepth 1000000 in
theorem any_short (s : ByteArray) (w : World) (h8 : s.size ≤ 8) :
    Calls Tryz.prog 164 #[.string s, .string ⟨#[47, 63]⟩] w fun e w' => e = .returned (.int .i64 (Lib.indexAny s.data.toList [47, 63])) ∧ Below w.heap.size w w' := by
  have cU : ∀ w, Calls Tryz.prog 203 #[.int .i64 s.size] w fun e w' => e = .returned (.bool false) ∧ w' = w := by
    intro w
    go_enter Tryz.func203, Tryz.ntmps203
    have hz : ¬ ((8 : Int) < (s.size : Int)) := by omega
    go_wp2_with fail
    go_ret
    exact ⟨rfl, rfl⟩
  go_enter Tryz.func164, Tryz.ntmps164
  go_wp2_with fail
  refine (cU _).mono ?_
  rintro e w' ⟨rfl, rfl⟩
  go_wp2_with fail
  clear cU
  go_loopg [9, 10] s.size (fun g _ _ wx => ∃ i : Nat, s.size ≤ i + g ∧ i ≤ s.size ∧ Hid (Lib.NoAny s.data.toList [47, 63] i) ∧ wx.heap[w'.heap.size]? = some (.stringIter s i) ∧ Below w'.heap.size w' wx)
  case atStart => exact ⟨0, by omega, by omega, Lib.hid (Lib.NoAny.zero _ _), World.iter_heap w' s 0, (Below.refl _ _).alloc (Nat.le_refl _) _⟩
  case round =>
    obtain ⟨i, hig, his, HN, hit, hb⟩ := hrel
    by_cases hlt : i < s.size
    · obtain ⟨g, rfl⟩ : ∃ g, gk = g + 1 := ⟨gk - 1, by omega⟩
      have hitw : w'.heap.size < wr.heap.size := (Array.getElem?_eq_some_iff.1 hit).1
      by_cases ha : (s[i]'hlt).toNat < 128
      · have hnx : ∀ ty, (Instr.next (.pointer (some ⟨w'.heap.size, 0, none⟩)) true ty).run Tryz.prog wr = _ := fun ty => Lib.run_next_ascii_at wr w'.heap.size s i ty hit hlt ha
        have hit2 := Lib.iterAt_heap wr w'.heap.size s i (i + 1) hit
        have hb2 := Lib.below_iterAt hb (k := w'.heap.size) (Nat.le_refl _) s (i + 1)
        obtain ⟨W, hWd⟩ : ∃ W, wr.iterAt w'.heap.size s (i + 1) = W := ⟨_, rfl⟩
        rw [hWd] at hnx hit2 hb2
        obtain ⟨x, hx⟩ : ∃ x : UInt8, s[i]'hlt = x := ⟨_, rfl⟩
        have hxl : s.data.toList[i]? = some x := by rw [← hx]; exact Lib.data_getElem? s i hlt
        rw [hx] at hnx ha
        have Hx := Lib.hid hxl
        clear hxl hx hWd
        have hcon := Lib.contains_iff_indexByte [47, 63] x
        have hI := fun w => Tryz.strings_IndexRune_ascii ⟨#[47, 63]⟩ (x.toNat : Int) w (by omega) (by omega)
        rw [byte_back] at hI
        have hI2 : ∀ w, Calls Tryz.prog 198 #[.string ⟨#[47, 63]⟩, .int .i32 x.toNat] w fun e w' => e = .returned (.int .i64 (Lib.indexByte [47, 63] x)) ∧ w' = w := hI
        clear hI
        cases hin : [47, 63].contains x with
        | false =>
          have HN2 := Lib.hid (HN.out.succ Hx.out hin)
          rw [hin] at hcon
          have hX : ¬ ((0 : Int) ≤ Lib.indexByte [47, 63] x) := of_decide_eq_false hcon.symm
          generalize Lib.indexByte [47, 63] x = X at *
          clear hcon hin
          go_wp2_with fail
          refine (hI2 _).mono ?_
          rintro e w1 ⟨rfl, rfl⟩
          go_wp2_with fail
          go_roundg g
          case measure => omega
          case rel => exact ⟨i + 1, by omega, by omega, HN2, hit2, hb2⟩
        | true =>
          have HR : Hid (Lib.indexAny s.data.toList [47, 63] = i) := Lib.indexAny_hit HN.out Hx.out hin
          rw [hin] at hcon
          have hX : ((0 : Int) ≤ Lib.indexByte [47, 63] x) := of_decide_eq_true hcon.symm
          generalize Lib.indexByte [47, 63] x = X at *
          clear hcon hin
          go_wp2_with fail
          refine (hI2 _).mono ?_
          rintro e w1 ⟨rfl, rfl⟩
          go_wp2_with fail
          go_ret
          exact ⟨ret_int HR.out.symm, hb2⟩
      · have hf := decode_far s i hlt (by omega)
        have hnx : ∀ ty, (Instr.next (.pointer (some ⟨w'.heap.size, 0, none⟩)) true ty).run Tryz.prog wr = _ := fun ty => Lib.run_next_any_at wr w'.heap.size s i ty hit hlt
        obtain ⟨f1, f2, f3, f4, f5⟩ := hf
        have HN2 := Lib.hid (noAny_skip HN.out f5)
        have hI := fun w => rune_not (Utf8.decode s i).1 w f1 f2
        generalize (Utf8.decode s i).1 = R at *
        generalize (Utf8.decode s i).2 = K at *
        have hit2 := Lib.iterAt_heap wr w'.heap.size s i (i + K) hit
        have hb2 := Lib.below_iterAt hb (k := w'.heap.size) (Nat.le_refl _) s (i + K)
        obtain ⟨W, hWd⟩ : ∃ W, wr.iterAt w'.heap.size s (i + K) = W := ⟨_, rfl⟩
        rw [hWd] at hnx hit2 hb2
        clear f1 f2 f5 hWd
        have hITW : w'.heap.size < W.heap.size := (Array.getElem?_eq_some_iff.1 hit2).1
        go_wp2_with fail
        refine (hI _).mono ?_
        rintro e w1 ⟨rfl, hbc⟩
        go_wp2_with fail
        go_roundg g
        case measure => omega
        case rel => exact ⟨i + K, by omega, f4, HN2, (hbc.block _ hITW).trans hit2, hb2.trans (hbc.mono hb2.size)⟩
    · obtain rfl : i = s.size := by omega
      have HR : Hid (Lib.indexAny s.data.toList [47, 63] = -1) := Lib.indexAny_none (by rw [← Lib.size_eq]; exact HN.out)
      have hnx : ∀ ty, (Instr.next (.pointer (some ⟨w'.heap.size, 0, none⟩)) true ty).run Tryz.prog wr = _ := fun ty => Lib.run_next_end_at wr w'.heap.size s s.size ty hit hlt
      go_wp2_with fail
      go_ret
      exact ⟨ret_int HR.out.symm, hb⟩
end Go.Proofs.YtoanelobggledaaGreatDoor

namespace Go.Proofs.YtoanelobggledaaGreatDoor
open Go.RowKit

theorem any_all (s : ByteArray) (w : World) (hs : s.size ≤ 1000000) :
    Calls Tryz.prog 164 #[.string s, .string ⟨#[47, 63]⟩] w fun e w' => e = .returned (.int .i64 (Lib.indexAny s.data.toList [47, 63])) ∧ Below w.heap.size w w' := by
  by_cases h8 : s.size ≤ 8
  · exact any_short s w h8
  · have h116 : (Tryz.prog.info? 186).map (fun i => (i.zero, i.size)) = some (some (.agg (Array.replicate 256 (.bool false))), 256) := by kernel_rfl
    refine (Tryz.strings_IndexAny_long (zero_of_info h116).1 s ⟨#[47, 63]⟩ w (by decide) (by omega) (by omega) (by decide) ?_).mono ?_
    · intro j b hj
      match j, hj with
      | 0, hj => simp at hj; subst hj; decide
      | 1, hj => simp at hj; subst hj; decide
    · rintro e w' ⟨he, rfl⟩
      exact ⟨he, ((Below.refl _ _).alloc (Nat.le_refl _) _).alloc (by simp) _⟩
theorem any_one (s : ByteArray) (d : UInt8) (hd : d.toNat < 128) (w : World) :
    Calls Tryz.prog 164 #[.string s, .string ⟨#[d]⟩] w fun e w' => e = .returned (.int .i64 (Lib.indexAny s.data.toList [d])) ∧ Below w.heap.size w w' := by
  refine (Tryz.strings_IndexAny_one s ⟨#[d]⟩ w rfl ?_).mono ?_
  · intro j b hj
    match j, hj with
    | 0, hj => simp at hj; subst hj; exact hd
  · rintro e w' ⟨he, rfl⟩
    exact ⟨he, Below.refl _ _⟩
set_option maxHeartbeats 800000 in
theorem ahead_c (s ch : ByteArray) (p : UInt8 → Bool) (w : World) (_hs : s.size ≤ 1000000) (hp : ∀ c, ch.data.toList.contains c = p c)
    (hI : Calls Tryz.prog 164 #[.string s, .string ch] w fun e w' => e = .returned (.int .i64 (Lib.indexAny s.data.toList ch.data.toList)) ∧ Below w.heap.size w w') :
    Calls Tryz.prog 124 #[.string s, .string ch] w fun e w' => e = .returned (.int .i64 (Tg.ahead p s.data.toList)) ∧ Below w.heap.size w w' := by
  have hx := ahead_index p _ hp s.data.toList
  generalize Lib.indexAny s.data.toList ch.data.toList = X at *
  have hl : s.data.toList.length = s.size := by simp
  rw [hl] at hx
  generalize Tg.ahead p s.data.toList = Y at *
  clear hp hl
  rcases hx with ⟨rfl, rfl⟩ | ⟨h0, h1⟩
  · go_enter Tryz.func124, Tryz.ntmps124
    go_wp2_with fail
    refine hI.mono ?_
    rintro e w1 ⟨rfl, hb⟩
    go_wp2_with fail
    go_ret
    exact ⟨rfl, hb⟩
  · go_enter Tryz.func124, Tryz.ntmps124
    have HE := Lib.hid h1
    clear h1
    go_wp2_with fail
    refine hI.mono ?_
    rintro e w1 ⟨rfl, hb⟩
    go_wp2_with fail
    go_ret
    exact ⟨ret_int HE.out, hb⟩
theorem ahead_qm (s : ByteArray) (w : World) (hs : s.size ≤ 1000000) :
    Calls Tryz.prog 124 #[.string s, .string ⟨#[63]⟩] w fun e w' => e = .returned (.int .i64 (Tg.ahead Tg.qm s.data.toList)) ∧ Below w.heap.size w w' :=
  ahead_c s ⟨#[63]⟩ Tg.qm w hs (fun c => by simp [Tg.qm, Bool.beq_eq_decide_eq]) (any_one s 63 (by decide) w)
theorem ahead_colon (s : ByteArray) (w : World) (hs : s.size ≤ 1000000) :
    Calls Tryz.prog 124 #[.string s, .string ⟨#[58]⟩] w fun e w' => e = .returned (.int .i64 (Tg.ahead Tg.colon s.data.toList)) ∧ Below w.heap.size w w' :=
  ahead_c s ⟨#[58]⟩ Tg.colon w hs (fun c => by simp [Tg.colon, Bool.beq_eq_decide_eq]) (any_one s 58 (by decide) w)
theorem ahead_sq (s : ByteArray) (w : World) (hs : s.size ≤ 1000000) :
    Calls Tryz.prog 124 #[.string s, .string ⟨#[47, 63]⟩] w fun e w' => e = .returned (.int .i64 (Tg.ahead Tg.sq s.data.toList)) ∧ Below w.heap.size w w' :=
  ahead_c s ⟨#[47, 63]⟩ Tg.sq w hs (fun c => by simp [Tg.sq, Bool.beq_eq_decide_eq]) (any_all s w hs)
set_option maxHeartbeats 800000 in
theorem absolute_s (s : ByteArray) (w : World) (hs : s.size ≤ 1000000) :
    Calls Tryz.prog 126 #[.string s] w fun e w' => e = .returned (.bool (Tg.http s.data.toList)) ∧ Below w.heap.size w w' := by
  have hl : s.data.toList.length = s.size := by simp
  by_cases h7 : 7 ≤ s.size
  · have h7i : (7 : Int) ≤ s.size := by omega
    have cL := fun w => Lower_s (s.extract 0 7) w (by simp; omega)
    have e7 : (s.extract 0 7).data.toList = s.data.toList.take 7 := by rw [Lib.extract_data]; simp
    rw [e7] at cL
    have HR : Hid (Tg.http s.data.toList = ((str (Oct.lower (s.data.toList.take 7))).toList == (⟨#[104, 116, 116, 112, 58, 47, 47]⟩ : ByteArray).toList)) := by
      unfold Tg.http
      rw [hl, decide_eq_true h7, str_toList, Lib.toList_data]; exact Lib.hid rfl
    generalize str (Oct.lower (s.data.toList.take 7)) = t at *
    clear e7 hl
    go_enter Tryz.func126, Tryz.ntmps126
    go_wp2_with fail
    refine (cL _).mono ?_
    rintro e w1 ⟨rfl, hb⟩
    go_wp2_with fail
    all_goals go_ret
    all_goals exact ⟨ret_bool (by rw [HR.out] <;> first | rfl | simp_all), hb⟩
  · have h7i : ¬ (7 : Int) ≤ s.size := by omega
    have HR : Hid (Tg.http s.data.toList = false) := by unfold Tg.http; rw [hl, decide_eq_false h7]; exact Lib.hid rfl
    clear hl
    go_enter Tryz.func126, Tryz.ntmps126
    go_wp2_with fail
    go_ret
    exact ⟨ret_bool HR.out.symm, Below.refl _ _⟩
theorem trim_pre (s : ByteArray) (d : UInt8) : (⟨(Lib.trimPrefix s.data.toList [d]).toArray⟩ : ByteArray) = str (if s.data.toList.head? = some d then s.data.toList.drop 1 else s.data.toList) := by
  unfold Lib.trimPrefix Lib.hasPrefix
  cases h : s.data.toList with
  | nil => rfl
  | cons c t =>
    by_cases hc : c = d
    · subst hc; simp [List.isPrefixOf, str]
    · have hc2 : ¬ d = c := fun e => hc e.symm
      simp [List.isPrefixOf, str, hc, hc2]
end Go.Proofs.YtoanelobggledaaGreatDoor

namespace Go.Proofs.YtoanelobggledaaGreatDoor
open Go.RowKit

def freeS : List UInt8 := [48, 49, 50, 51, 52, 53, 54, 55, 56, 57, 97, 98, 99, 100, 101, 102, 103, 104, 105, 106, 107, 108, 109, 110, 111, 112, 113, 114, 115, 116, 117, 118, 119, 120, 121, 122, 65, 66, 67, 68, 69, 70, 71, 72, 73, 74, 75, 76, 77, 78, 79, 80, 81, 82, 83, 84, 85, 86, 87, 88, 89, 90, 45, 46, 95, 126]
def markS : List UInt8 := [33, 36, 38, 39, 40, 41, 42, 43, 44, 59, 61]
def pathS : List UInt8 := [33, 36, 38, 39, 40, 41, 42, 43, 44, 59, 61, 58, 64, 47]
def queryS : List UInt8 := [33, 36, 38, 39, 40, 41, 42, 43, 44, 59, 61, 58, 64, 47, 63]
def numS : List UInt8 := [48, 49, 50, 51, 52, 53, 54, 55, 56, 57, 97, 98, 99, 100, 101, 102, 65, 66, 67, 68, 69, 70, 58, 46]
theorem lit_free : (⟨(([48, 49, 50, 51, 52, 53, 54, 55, 56, 57, 97, 98, 99, 100, 101, 102, 103, 104, 105, 106, 107, 108, 109, 110, 111, 112, 113, 114, 115, 116, 117, 118, 119] : List UInt8).append [120, 121, 122, 65, 66, 67, 68, 69, 70, 71, 72, 73, 74, 75, 76, 77, 78, 79, 80, 81, 82, 83, 84, 85, 86, 87, 88, 89, 90, 45, 46, 95, 126]).toArray⟩ : ByteArray) = str freeS := rfl
theorem in_free (c : UInt8) : inSets [freeS] c = Tg.free c := by
  have := Oct.all_octets (fun c => decide (inSets [freeS] c = Tg.free c)) (by decide +kernel) c
  exact of_decide_eq_true this
theorem in_host (c : UInt8) : inSets [freeS, markS] c = Tg.hostc c := by
  have := Oct.all_octets (fun c => decide (inSets [freeS, markS] c = Tg.hostc c)) (by decide +kernel) c
  exact of_decide_eq_true this
theorem in_path (c : UInt8) : inSets [freeS, pathS] c = Tg.pathc c := by
  have := Oct.all_octets (fun c => decide (inSets [freeS, pathS] c = Tg.pathc c)) (by decide +kernel) c
  exact of_decide_eq_true this
theorem in_query (c : UInt8) : inSets [freeS, queryS] c = Tg.queryc c := by
  have := Oct.all_octets (fun c => decide (inSets [freeS, queryS] c = Tg.queryc c)) (by decide +kernel) c
  exact of_decide_eq_true this
theorem in_num (c : UInt8) : inSets [numS] c = Tg.numc c := by
  have := Oct.all_octets (fun c => decide (inSets [numS] c = Tg.numc c)) (by decide +kernel) c
  exact of_decide_eq_true this
theorem only_num (s x : ByteArray) (w : World) (hx : x = str numS) (hs : s.size ≤ 1000000) :
    Calls Tryz.prog 208 #[.string s, .slice (some ⟨w.heap.size, 0, none⟩) 1 1] (w.alloc (.cells #[.string x] 9)) fun e w' => e = .returned (.bool (Oct.allOf Tg.numc s.data.toList)) ∧ Below w.heap.size w w' := by
  refine (only_s Tg.numc s _ _ _ (SIn.one w x numS hx) (by decide) in_num hs).mono ?_
  rintro e w' ⟨he, rfl⟩
  exact ⟨he, (Below.refl _ _).alloc (Nat.le_refl _) _⟩
theorem only_host (s x y : ByteArray) (w : World) (hx : x = str freeS) (hy : y = str markS) (hs : s.size ≤ 1000000) :
    Calls Tryz.prog 208 #[.string s, .slice (some ⟨w.heap.size, 0, none⟩) 2 2] (w.alloc (.cells #[.string x, .string y] 9)) fun e w' => e = .returned (.bool (Oct.allOf Tg.hostc s.data.toList)) ∧ Below w.heap.size w w' := by
  refine (only_s Tg.hostc s _ _ _ (SIn.two w x y freeS markS hx hy) (by decide) in_host hs).mono ?_
  rintro e w' ⟨he, rfl⟩
  exact ⟨he, (Below.refl _ _).alloc (Nat.le_refl _) _⟩
theorem in_freeS (c : UInt8) (x : ByteArray) (w : World) (hx : x = str freeS) :
    Calls Tryz.prog 232 #[.int .u8 c.toNat, .slice (some ⟨w.heap.size, 0, none⟩) 1 1] (w.alloc (.cells #[.string x] 9)) fun e w' => e = .returned (.bool (Tg.free c)) ∧ Below w.heap.size w w' := by
  refine (in_s c _ _ _ (SIn.one w x freeS hx) (by decide)).mono ?_
  rintro e w' ⟨he, rfl⟩
  rw [in_free] at he
  exact ⟨he, (Below.refl _ _).alloc (Nat.le_refl _) _⟩
set_option maxHeartbeats 800000 in
theorem portOf_s (s : ByteArray) (w : World) (hs : s.size ≤ 1000000) :
    Calls Tryz.prog 210 #[.string s] w fun e w' => (∃ k b, e = .returned (.tuple #[.int .i64 k, .bool b]) ∧ Tg.portOf s.data.toList = if b then some k else none) ∧ Below w.heap.size w w' := by
  have cT := fun w => Tryz.strings_TrimPrefix s ⟨#[58]⟩ w
  have e1 : (⟨(Lib.trimPrefix s.data.toList (⟨#[58]⟩ : ByteArray).data.toList).toArray⟩ : ByteArray) = str (Tg.trim58 s.data.toList) := trim_pre s 58
  rw [e1] at cT
  have hz : (Tg.trim58 s.data.toList).length ≤ s.size := by unfold Tg.trim58; split <;> simp
  have HP : Hid (Tg.portOf s.data.toList = Tg.portV (Tg.trim58 s.data.toList)) := Lib.hid rfl
  generalize Tg.trim58 s.data.toList = t at *
  have hts := str_size t
  have htl := str_toList t
  obtain ⟨a, e, hae⟩ : ∃ a e, Oct.number 10 65535 t = (a, e) := ⟨_, _, rfl⟩
  have cN := fun w => Number_is (str t) 65535 a e w (by omega) (by decide) (by decide) (by rw [str_list]; exact hae)
  have HV : Hid (Tg.portV t = if t = [] then some 80 else if e = 0 ∧ t.length ≤ 5 then some a else none) := by unfold Tg.portV; rw [hae]; exact Lib.hid rfl
  by_cases ht : t = []
  · subst ht
    have HR : Hid (Tg.portOf s.data.toList = some 80) := by rw [HP.out, HV.out]; exact Lib.hid rfl
    have e0 : str [] = ⟨#[]⟩ := rfl
    rw [e0] at cT
    clear cN hts htl HP HV e1 hae
    go_enter Tryz.func210, Tryz.ntmps210
    go_wp2_with fail
    refine (cT _).mono ?_
    rintro e w1 ⟨rfl, rfl⟩
    go_wp2_with fail
    go_ret2
    exact ⟨⟨80, true, rfl, HR.out⟩, Below.refl _ _⟩
  · have b1 : (str t).toList.isEmpty = false := by rw [htl]; cases t with
      | nil => exact absurd rfl ht
      | cons _ _ => rfl
    have HR : Hid (Tg.portOf s.data.toList = if e = 0 ∧ t.length ≤ 5 then some a else none) := by rw [HP.out, HV.out, if_neg ht]; exact Lib.hid rfl
    generalize str t = x at *
    clear HP HV e1 hae htl ht
    by_cases he : e = 0
    · subst he
      by_cases h5 : t.length ≤ 5
      · have HR2 : Hid (Tg.portOf s.data.toList = some a) := by rw [HR.out, if_pos ⟨rfl, h5⟩]; exact Lib.hid rfl
        have h5x : (x.size : Int) ≤ 5 := by omega
        clear HR h5 hts
        go_enter Tryz.func210, Tryz.ntmps210
        go_wp2_with fail
        refine (cT _).mono ?_
        rintro e w1 ⟨rfl, rfl⟩
        go_wp2_with fail
        refine (cN _).mono ?_
        rintro e w1 ⟨rfl, hb⟩
        go_wp2_with fail
        go_ret2
        exact ⟨⟨_, true, rfl, HR2.out⟩, hb⟩
      · have HR2 : Hid (Tg.portOf s.data.toList = none) := by rw [HR.out, if_neg (fun e => h5 e.2)]; exact Lib.hid rfl
        have h5x : ¬ (x.size : Int) ≤ 5 := by omega
        clear HR h5 hts
        go_enter Tryz.func210, Tryz.ntmps210
        go_wp2_with fail
        refine (cT _).mono ?_
        rintro e w1 ⟨rfl, rfl⟩
        go_wp2_with fail
        refine (cN _).mono ?_
        rintro e w1 ⟨rfl, hb⟩
        go_wp2_with fail
        go_ret2
        exact ⟨⟨_, _, rfl, by rw [HR2.out, decide_eq_false (Int.not_le.2 h5x)]; rfl⟩, hb⟩
    · have HR2 : Hid (Tg.portOf s.data.toList = none) := by rw [HR.out, if_neg (fun h => he h.1)]; exact Lib.hid rfl
      have b2 : (e == 0) = false := beq_eq_false_iff_ne.2 he
      clear HR he hts
      go_enter Tryz.func210, Tryz.ntmps210
      go_wp2_with fail
      refine (cT _).mono ?_
      rintro e w1 ⟨rfl, rfl⟩
      go_wp2_with fail
      refine (cN _).mono ?_
      rintro e w1 ⟨rfl, hb⟩
      go_wp2_with fail
      go_ret2
      exact ⟨⟨_, false, rfl, HR2.out⟩, hb⟩
theorem suf_93 (t : List UInt8) : Lib.hasSuffix t [93] = (t.getLast? == some 93) := by
  rcases t.eq_nil_or_concat with rfl | ⟨i, c, rfl⟩
  · rfl
  · rw [List.concat_eq_append, List.getLast?_concat]
    unfold Lib.hasSuffix
    have : [93].isSuffixOf (i ++ [c]) = ((93 : UInt8) == c) := by simp [List.isSuffixOf, List.isPrefixOf]
    rw [this, Bool.eq_iff_iff, beq_iff_eq, beq_iff_eq, Option.some.injEq]; exact eq_comm
theorem tsuf_93 (t : List UInt8) (h : t.getLast? = some 93) : Lib.trimSuffix t [93] = t.dropLast := by
  unfold Lib.trimSuffix
  rw [suf_93, h, if_pos (by simp)]
  rw [List.dropLast_eq_take]; rfl
set_option maxHeartbeats 1600000 in
set_option maxRecDepth 100000 in
theorem isHost_s (s : ByteArray) (w : World) (hs : s.size ≤ 1000000) :
    Calls Tryz.prog 211 #[.string s] w fun e w' => e = .returned (.bool (Tg.isHost s.data.toList)) ∧ Below w.heap.size w w' := by
  obtain ⟨l, hl⟩ : ∃ l, s.data.toList = l := ⟨_, rfl⟩
  have hsl : s = str l := str_same hl
  have hll : l.length ≤ 1000000 := by rw [← hl]; simpa using hs
  have cP := fun w => Tryz.strings_CutPrefix s ⟨#[91]⟩ w
  have cH := fun (x y : ByteArray) (w : World) (hx : x = str freeS) (hy : y = str markS) => only_host s x y w hx hy hs
  rw [hl] at cP cH ⊢
  cases l with
  | nil =>
    subst hsl
    have e0 : str [] = ⟨#[]⟩ := rfl
    rw [e0] at *
    go_enter Tryz.func211, Tryz.ntmps211
    rw [lit_free]
    go_wp2_with fail
    refine (cP _).mono ?_
    rintro e w1 ⟨rfl, rfl⟩
    go_wp2_with fail
    go_ret
    exact ⟨rfl, Below.refl _ _⟩
  | cons c t =>
    by_cases hc : c = 91
    · subst hc
      have hp : Lib.hasPrefix (91 :: t) (⟨#[91]⟩ : ByteArray).data.toList = true := by simp [Lib.hasPrefix, List.isPrefixOf]
      have ht : (⟨(Lib.trimPrefix (91 :: t) (⟨#[91]⟩ : ByteArray).data.toList).toArray⟩ : ByteArray) = str t := by unfold Lib.trimPrefix; rw [hp]; rfl
      rw [hp, ht] at cP
      have htz := str_size t
      have hll : t.length ≤ 1000000 := by simp at hll; omega
      have cS := fun w => Tryz.strings_CutSuffix (str t) ⟨#[93]⟩ w (by omega)
      rw [str_list] at cS
      have e93 : (⟨#[93]⟩ : ByteArray).data.toList = [93] := rfl
      rw [e93, suf_93] at cS
      by_cases h93 : t.getLast? = some 93
      · have b93 : (t.getLast? == some 93) = true := by rw [h93]; rfl
        rw [tsuf_93 t h93, b93] at cS
        have cS2 : ∀ w, Calls Tryz.prog 238 #[.string (str t), .string ⟨#[93]⟩] w fun e w' => e = .returned (.tuple #[.string (str t.dropLast), .bool true]) ∧ w' = w := cS
        have HR : Hid (Tg.isHost (91 :: t) = (decide (2 ≤ t.length) && Oct.allOf Tg.numc t.dropLast)) := by
          rw [Tg.isHost_cons, if_pos rfl, b93, Bool.and_true]; exact Lib.hid rfl
        have hdl : t.dropLast.length = t.length - 1 := List.length_dropLast
        have cN := fun (x : ByteArray) (w : World) (hx : x = str numS) => only_num (str t.dropLast) x w hx (by rw [str_size]; omega)
        rw [str_list] at cN
        by_cases h2 : 2 ≤ t.length
        · have HR2 : Hid (Tg.isHost (91 :: t) = Oct.allOf Tg.numc t.dropLast) := by rw [HR.out, decide_eq_true h2]; exact Lib.hid rfl
          have b1 : (str t.dropLast).toList.isEmpty = false := by
            rw [str_toList]
            cases hd : t.dropLast with
            | nil => rw [hd] at hdl; simp at hdl; omega
            | cons _ _ => rfl
          generalize str t.dropLast = y at *
          generalize str t = x at *
          clear cS HR h2 hdl ht hp hl hsl hll htz h93 b93 cH
          go_enter Tryz.func211, Tryz.ntmps211
          rw [lit_free]
          go_wp2_with fail
          refine (cP _).mono ?_
          rintro e w1 ⟨rfl, rfl⟩
          go_wp2_with fail
          refine (cS2 _).mono ?_
          rintro e w1 ⟨rfl, rfl⟩
          go_wp2_with fail
          refine (cN _ _ (by rfl)).mono ?_
          rintro e w1 ⟨rfl, hb⟩
          go_wp2_with fail
          go_ret
          exact ⟨ret_bool HR2.out.symm, hb⟩
        · have HR2 : Hid (Tg.isHost (91 :: t) = false) := by rw [HR.out, decide_eq_false h2]; exact Lib.hid rfl
          have e0 : str t.dropLast = ⟨#[]⟩ := by rw [List.eq_nil_of_length_eq_zero (l := t.dropLast) (by omega)]; rfl
          rw [e0] at cS2
          generalize str t = x at *
          clear cS HR h2 hdl ht hp hl hsl hll htz h93 b93 cH cN e0
          go_enter Tryz.func211, Tryz.ntmps211
          rw [lit_free]
          go_wp2_with fail
          refine (cP _).mono ?_
          rintro e w1 ⟨rfl, rfl⟩
          go_wp2_with fail
          refine (cS2 _).mono ?_
          rintro e w1 ⟨rfl, rfl⟩
          go_wp2_with fail
          go_ret
          exact ⟨ret_bool HR2.out.symm, Below.refl _ _⟩
      · have b93 : (t.getLast? == some 93) = false := beq_eq_false_iff_ne.2 h93
        rw [b93] at cS
        have HR2 : Hid (Tg.isHost (91 :: t) = false) := by rw [Tg.isHost_cons, if_pos rfl, b93]; simp; exact Lib.hid trivial
        generalize (⟨(Lib.trimSuffix t [93]).toArray⟩ : ByteArray) = y at *
        generalize str t = x at *
        clear ht hp hl hsl hll htz h93 b93 cH
        go_enter Tryz.func211, Tryz.ntmps211
        rw [lit_free]
        go_wp2_with fail
        refine (cP _).mono ?_
        rintro e w1 ⟨rfl, rfl⟩
        go_wp2_with fail
        refine (cS _).mono ?_
        rintro e w1 ⟨rfl, rfl⟩
        go_wp2_with fail
        go_ret
        exact ⟨ret_bool HR2.out.symm, Below.refl _ _⟩
    · have hc2 : ¬ 91 = c := fun e => hc e.symm
      have hp : Lib.hasPrefix (c :: t) (⟨#[91]⟩ : ByteArray).data.toList = false := by simp [Lib.hasPrefix, List.isPrefixOf, hc2]
      rw [hp] at cP
      have HR2 : Hid (Tg.isHost (c :: t) = Oct.allOf Tg.hostc (c :: t)) := by rw [Tg.isHost_cons, if_neg hc]; exact Lib.hid rfl
      have b1 : s.toList.isEmpty = false := by rw [Lib.toList_data, hl]; rfl
      generalize (⟨(Lib.trimPrefix (c :: t) (⟨#[91]⟩ : ByteArray).data.toList).toArray⟩ : ByteArray) = y at *
      clear hp hl hsl hll
      go_enter Tryz.func211, Tryz.ntmps211
      rw [lit_free]
      go_wp2_with fail
      refine (cP _).mono ?_
      rintro e w1 ⟨rfl, rfl⟩
      go_wp2_with fail
      refine (cH _ _ _ (by rfl) (by rfl)).mono ?_
      rintro e w1 ⟨rfl, hb⟩
      go_wp2_with fail
      go_ret
      exact ⟨ret_bool HR2.out.symm, hb⟩
end Go.Proofs.YtoanelobggledaaGreatDoor

namespace Go.Proofs.YtoanelobggledaaGreatDoor
open Go.RowKit

theorem close_ix (l : List UInt8) : Lib.indexByte l 93 + 1 = (Tg.closeAt l : Int) := by
  have h := ahead_index Tg.close [93] (fun c => by simp [Tg.close, Bool.beq_eq_decide_eq]) l
  have e : Lib.indexAny l [93] = Lib.indexByte l 93 := by
    have : ∀ l : List UInt8, Lib.indexAny l [93] = Lib.indexByte l 93 := by
      intro l
      induction l with
      | nil => rfl
      | cons b t ih =>
        unfold Lib.indexAny Lib.indexByte
        rw [ih]
        have : [93].contains b = (b == 93) := by simp [Bool.beq_eq_decide_eq]
        rw [this]
    exact this l
  rw [e] at h
  have hle := Tg.ahead_le Tg.close l
  unfold Tg.closeAt
  rcases h with ⟨h1, h2⟩ | ⟨h1, h2⟩
  · rw [h1, if_neg (by omega)]; rfl
  · have hlt : Tg.ahead Tg.close l < l.length := by
      have hne : ∀ l : List UInt8, Tg.ahead Tg.close l = l.length → Lib.indexByte l 93 = -1 := by
        intro l
        induction l with
        | nil => intro _; rfl
        | cons b t ih =>
          intro hh
          unfold Tg.ahead at hh
          split at hh
          · simp at hh
          · rename_i hb
            have hb2 : (b == 93) = false := by simpa [Tg.close] using hb
            unfold Lib.indexByte
            rw [hb2, ih (by simpa using hh)]; rfl
      rcases Nat.lt_or_ge (Tg.ahead Tg.close l) l.length with h3 | h3
      · exact h3
      · have := hne l (by omega); omega
    rw [if_pos hlt]; omega
theorem site_some (l : List UInt8) (h : Tg.isHost (l.take (Tg.cutP l)) = true) {k : Int} (hk : Tg.portOf (l.drop (Tg.cutP l)) = some k) : Tg.site l = some (Oct.lower (l.take (Tg.cutP l)), k) := by
  unfold Tg.site Tg.siteAt; rw [if_pos h, hk]; rfl
theorem site_none1 (l : List UInt8) (h : Tg.isHost (l.take (Tg.cutP l)) = false) : Tg.site l = none := by
  unfold Tg.site Tg.siteAt; rw [if_neg (by rw [h]; decide)]
theorem site_none2 (l : List UInt8) (h : Tg.portOf (l.drop (Tg.cutP l)) = none) : Tg.site l = none := by
  unfold Tg.site Tg.siteAt; split
  · rw [h]; rfl
  · rfl
def sres : Option (List UInt8 × Int) → Value
  | none => .tuple #[uval Tg.zero, .bool false]
  | some x => .tuple #[uval ⟨x.1, x.2, []⟩, .bool true]
theorem results_uri {fn : Func} {p u : Tmp} (h : fn.results = #[.cell p 46, .tmp u]) (tmps : Array Value) (w : World) (g : Nat) (x y z : Value)
    (hp : tmps.getD p undef = .pointer (some ⟨g, 0, none⟩)) (hg : w.heap[g]? = some (.cells #[x, y, z] 46 (0, 0))) :
    (results fn tmps).run Tryz.prog w = .ok (.tuple #[.agg #[x, y, z], tmps.getD u undef]) w := by
  have e := run_loadVar_row (P := Tryz.prog) w g 46 46 #[x, y, z] (0, 0) _ hg Tryz.underlying46 rfl (by kernel_rfl)
  rw [results_cell_tmp h, hp]
  simp [Result.andThen, asAddr, e]
theorem ret_uri {fn : Func} {p u : Tmp} (h : fn.results = #[.cell p 46, .tmp u]) {R : Ending → World → Prop} {a : Act} {w : World} (g : Nat) (x y z : Value)
    (hp : a.tmps.getD p undef = .pointer (some ⟨g, 0, none⟩)) (hg : w.heap[g]? = some (.cells #[x, y, z] 46 (0, 0))) (hd : a.defers = []) (hR : R (.returned (.tuple #[.agg #[x, y, z], a.tmps.getD u undef])) w) : bodyPost Tryz.prog fn R .ret a w :=
  bodyPost_ret (v := .tuple #[.agg #[x, y, z], a.tmps.getD u undef]) (results_uri h _ _ g x y z hp hg) hd hR
structure Res (w : World) (g : Nat) (W : World) (x y z : Value) : Prop where
  cell : W.heap[g]? = some (.cells #[x, y, z] 46 (0, 0))
  below : Below w.heap.size w W
  ge : w.heap.size ≤ g
theorem Res.later {w : World} {g : Nat} {W W' : World} {x y z : Value} (h : Res w g W x y z) (hb : Below W.heap.size W W') : Res w g W' x y z :=
  ⟨(hb.block _ (lt_of_block h.cell)).trans h.cell, h.below.trans (hb.mono h.below.size), h.ge⟩
theorem Res.alloc {w : World} {g : Nat} {W : World} {x y z : Value} (h : Res w g W x y z) (o : Obj) : Res w g (W.alloc o) x y z := h.later ((Below.refl _ _).alloc (Nat.le_refl _) o)
theorem Res.start (w : World) (x y z : Value) : Res w w.heap.size (w.alloc (.cells #[x, y, z] 46)) x y z :=
  ⟨heap_alloc_new w _, (Below.refl _ _).alloc (Nat.le_refl _) _, Nat.le_refl _⟩
theorem stU {ops : Array Oper} {rest : List Oper} {o : Oper} {a : Act} {Q : Exit → Act → World → Prop} {w0 W : World} {g : Nat} {x y z : Value} (h : Res w0 g W x y z)
    (hgd : o.guard = none) (px py : Operand) (ho : o.op = .store 46 px py) (x' : ByteArray) (y' : Int) (z' : ByteArray) (hx : a.eval px = .pointer (some ⟨g, 0, none⟩)) (hy : a.eval py = .agg #[.string x', .int .i64 y', .string z'])
    (hK : ∀ W', Res w0 g W' (.string x') (.int .i64 y') (.string z') → (∀ k, k ≠ g → W'.heap[k]? = W.heap[k]?) → wpList Tryz.prog ops Q rest (a.put o.dst undef) W') : wpList Tryz.prog ops Q (o :: rest) a W := by
  refine wpList_store_row hgd 46 px py ho g #[.string x', .int .i64 y', .string z'] hx hy 46 #[x, y, z] h.cell (by kernel_rfl) rfl (by simp [Value.oneCell']) (hK _ ⟨?_, ?_, h.ge⟩ ?_)
  · have hlt := lt_of_block h.cell
    simp [World.setRow, Array.getElem?_modify, h.cell]
  · refine h.below.trans ⟨rfl, rfl, rfl, by simp [World.setRow], fun k hk => ?_⟩
    have hne : g ≠ k := by have := h.ge; omega
    simp [World.setRow, Array.getElem?_modify, hne]
  · intro k hk
    simp [World.setRow, Array.getElem?_modify, hk.symm]
theorem ldU {ops : Array Oper} {rest : List Oper} {o : Oper} {a : Act} {Q : Exit → Act → World → Prop} {W : World} {g : Nat} {x y z : Value} (h : W.heap[g]? = some (.cells #[x, y, z] 46 (0, 0)))
    (hgd : o.guard = none) (px : Operand) (ho : o.op = .load 46 px) (hx : a.eval px = .pointer (some ⟨g, 0, none⟩))
    (hK : wpList Tryz.prog ops Q rest (a.put o.dst (.agg #[x, y, z])) W) : wpList Tryz.prog ops Q (o :: rest) a W :=
  wpList_load_row hgd 46 px ho g hx 46 #[x, y, z] (0, 0) _ h Tryz.underlying46 rfl (by kernel_rfl) hK
set_option maxHeartbeats 1600000 in
set_option maxRecDepth 100000 in
theorem site_s (l : List UInt8) (w : World) (hl : l.length ≤ 1000000) :
    Calls Tryz.prog 167 #[.string (str l)] w fun e w' => e = .returned (sres (Tg.site l)) ∧ Below w.heap.size w w' := by
  obtain ⟨s, hs⟩ : ∃ s, s = str l := ⟨_, rfl⟩
  have hsl : s.data.toList = l := by rw [hs, str_list]
  have hsz : s.size = l.length := by rw [hs, str_size]
  rw [← hs]
  have cI := fun w => Tryz.strings_IndexByte s 93 w
  have e93 : ((93 : Int).toNat.toUInt8) = 93 := rfl
  rw [hsl, e93] at cI
  have hci := close_ix l
  have hcl := Tg.closeAt_le l
  generalize Lib.indexByte l 93 = X at *
  obtain ⟨C, hC⟩ : ∃ C, C = Tg.closeAt l := ⟨_, rfl⟩
  rw [← hC] at hci hcl
  have hXw : IntKind.i64.wrap (X + 1) = (C : Int) := by rw [hci]; rw [IntKind.wrap_i64]; omega
  have cA := fun w => ahead_colon (s.extract C s.size) w (by simp; omega)
  have exC : (s.extract C s.size).data.toList = l.drop C := by rw [Lib.extract_data, hsl, List.take_of_length_le]; rw [List.length_drop]; omega
  rw [exC] at cA
  obtain ⟨N, hN⟩ : ∃ N, N = Tg.cutP l := ⟨_, rfl⟩
  have hNC : N = C + Tg.ahead Tg.colon (l.drop C) := by rw [hN, hC]; rfl
  have hNl : N ≤ l.length := by rw [hN]; exact Tg.cutP_le l
  have cP := fun w => portOf_s (s.extract N s.size) w (by simp; omega)
  have exN : (s.extract N s.size).data.toList = l.drop N := by rw [Lib.extract_data, hsl, List.take_of_length_le]; rw [List.length_drop]; omega
  have cH := fun w => isHost_s (s.extract 0 N) w (by simp; omega)
  have ex0 : (s.extract 0 N).data.toList = l.take N := by rw [Lib.extract_data, hsl]; simp
  have cL := fun w => Lower_s (s.extract 0 N) w (by simp; omega)
  rw [exN] at cP
  rw [ex0] at cH cL
  have S1 : Tg.isHost (l.take (Tg.cutP l)) = true → ∀ k, Tg.portOf (l.drop (Tg.cutP l)) = some k → Tg.site l = some (Oct.lower (l.take (Tg.cutP l)), k) := fun h k hk => site_some l h hk
  have S2 := site_none1 l
  have S3 := site_none2 l
  rw [← hN] at S1 S2 S3
  generalize Tg.ahead Tg.colon (l.drop C) = A at *
  have hAw : IntKind.i64.wrap ((C : Int) + (A : Int)) = (N : Int) := by rw [show (C : Int) + A = (N : Int) by omega]; rw [IntKind.wrap_i64]; omega
  generalize Tg.isHost (l.take N) = ih at *
  generalize Oct.lower (l.take N) = lo at *
  generalize Tg.portOf (l.drop N) = po at *
  have hCs : (C : Int) ≤ s.size := by omega
  have hNs : (N : Int) ≤ s.size := by omega
  clear exC exN ex0 hC hN hNC hsl hs hci
  clear hsz hcl hNl hl
  have HS1 := Lib.hid S1
  have HS2 := Lib.hid S2
  have HS3 := Lib.hid S3
  clear S1 S2 S3
  go_enter Tryz.func167, Tryz.ntmps167
  go_upto_region 1 with fail
  have hR0 := Res.start w (.string ⟨#[]⟩) (.int .i64 0) (.string ⟨#[]⟩)
  generalize w.alloc (.cells #[.string ⟨#[]⟩, .int .i64 0, .string ⟨#[]⟩] 46) = W at hR0 ⊢
  generalize w.heap.size = G at hR0 ⊢
  go_wp2_with fail
  refine (cI _).mono ?_
  rintro e W' ⟨rfl, rfl⟩
  go_wp2_with fail
  refine (cA _).mono ?_
  rintro e W1 ⟨rfl, hb1⟩
  have hR1 := hR0.later hb1
  go_wp2_with fail
  refine (cP _).mono ?_
  rintro e W2 ⟨⟨k, b, rfl, hpo⟩, hb2⟩
  have hR2 := hR1.later hb2
  clear cI cA cP hb1 hb2 hR0 hR1
  cases b with
  | false =>
    have HV : Hid (Tg.site l = none) := HS3.out hpo
    clear hpo cH cL
    go_wp2_with (refine stU hR2 rfl (.tmp 2) (.tmp 32) rfl _ _ _ rfl rfl ?_; intro W3 hR3 _)
    (try simp only [Exit.inBlock, Exit.then])
    refine ret_uri rfl G _ _ _ rfl hR3.cell rfl ?_
    exact ⟨by rw [HV.out]; rfl, hR3.below⟩
  | true =>
    cases ih with
    | false =>
      have HV : Hid (Tg.site l = none) := HS2.out rfl
      clear cL
      go_wp2_with fail
      refine (cH _).mono ?_
      rintro e W3 ⟨rfl, hb3⟩
      have hR3 := hR2.later hb3
      go_wp2_with (refine stU hR3 rfl (.tmp 2) (.tmp 32) rfl _ _ _ rfl rfl ?_; intro W4 hR4 _)
      (try simp only [Exit.inBlock, Exit.then])
      refine ret_uri rfl G _ _ _ rfl hR4.cell rfl ?_
      exact ⟨by rw [HV.out]; rfl, hR4.below⟩
    | true =>
      have HV : Hid (Tg.site l = some (lo, k)) := HS1.out rfl k hpo
      go_wp2_with fail
      refine (cH _).mono ?_
      rintro e W3 ⟨rfl, hb3⟩
      have hR3 := hR2.later hb3
      go_wp2_with fail
      refine (cL _).mono ?_
      rintro e W4 ⟨rfl, hb4⟩
      have hR4 := hR3.later hb4
      go_wp2_with (refine stU hR4 rfl (.tmp 2) (.tmp 38) rfl _ _ _ rfl rfl ?_; intro W5 hR5 _)
      (try simp only [Exit.inBlock, Exit.then])
      refine ret_uri rfl G _ _ _ rfl hR5.cell rfl ?_
      exact ⟨by rw [HV.out]; rfl, hR5.below⟩
end Go.Proofs.YtoanelobggledaaGreatDoor

namespace Go.Proofs.YtoanelobggledaaGreatDoor
open Go.RowKit

theorem split_sp (d : UInt8) : ∀ s : List UInt8, Lib.splitK [d] 0 (Lib.count s [d]) s = Tg.sp d s
  | [] => by
    have : Lib.count [] [d] = 0 := by rw [Lib.count_one]; rfl
    rw [this]; rfl
  | c :: t => by
    have ih := split_sp d t
    by_cases hc : c = d
    · subst hc
      rw [Lib.count_cons_eq, Nat.add_comm, Tg.sp_sep, ← ih]
      have e : Lib.index (c :: t) [c] = 0 := by rw [Lib.index_one]; simp [Lib.indexByte]
      simp only [Lib.splitK, e]
      rfl
    · rw [Lib.count_cons_ne c d t hc]
      obtain ⟨x, xs, hx⟩ := Tg.sp_cases d t
      rw [Tg.sp_other d c t hc hx]
      rw [hx] at ih
      have e : Lib.index (c :: t) [d] = if Lib.index t [d] == -1 then -1 else Lib.index t [d] + 1 := by
        rw [Lib.index_one, Lib.index_one]
        have : (c == d) = false := beq_eq_false_iff_ne.2 hc
        simp [Lib.indexByte, this]
      have hge := Lib.index_ge t [d]
      cases hk : Lib.count t [d] with
      | zero =>
        rw [hk] at ih
        have ih' : [t] = x :: xs := ih
        obtain ⟨rfl, rfl⟩ := List.cons.inj ih'
        rfl
      | succ k =>
        rw [hk] at ih
        simp only [Lib.splitK] at ih ⊢
        rw [e]
        by_cases hm : Lib.index t [d] = -1
        · rw [hm] at ih ⊢
          simp only [beq_self_eq_true, if_true] at ih ⊢
          obtain ⟨rfl, rfl⟩ := List.cons.inj ih
          rfl
        · have b1 : (Lib.index t [d] == -1) = false := beq_eq_false_iff_ne.2 hm
          have b2 : (Lib.index t [d] + 1 == -1) = false := beq_eq_false_iff_ne.2 (by omega)
          simp only [b1, b2, Bool.false_eq_true, if_false] at ih ⊢
          obtain ⟨h1, h2⟩ := List.cons.inj ih
          have e1 : (Lib.index t [d] + 1).toNat = (Lib.index t [d]).toNat + 1 := by omega
          rw [e1, ← h1, ← h2]
          simp
theorem Split_w (d : UInt8) (l : List UInt8) (w : World) (hl : l.length ≤ 1000000) (hm : MaxOk w) :
    Calls Tryz.prog 205 #[.string (str l), .string ⟨#[d]⟩] w fun e w' => (∃ A, e = .returned (.slice (some ⟨A, 0, none⟩) (Tg.sp d l).length (Tg.sp d l).length) ∧ SIn w' (.slice (some ⟨A, 0, none⟩) (Tg.sp d l).length (Tg.sp d l).length) (Tg.sp d l)) ∧ Below w.heap.size w w' := by
  obtain ⟨m, hm⟩ := hm
  refine (Tryz.strings_Split (str l) ⟨#[d]⟩ m w (by rw [str_size]; omega) hm (Nat.le_refl 1)).mono ?_
  rintro e w' ⟨rfl, rfl⟩
  have hk : Lib.countB (str l) ⟨#[d]⟩ = Lib.count l [d] := by
    show Lib.count (str l).data.toList [d] = _
    rw [str_list]
  have hd := Lib.splitB_data ⟨#[d]⟩ 0 (Lib.countB (str l) ⟨#[d]⟩) (str l)
  have hs : (Lib.splitB ⟨#[d]⟩ 0 (Lib.countB (str l) ⟨#[d]⟩) (str l)).map (·.data.toList) = Tg.sp d l := by
    rw [hd, hk, str_list]; exact split_sp d l
  have hlen := Lib.splitB_all ⟨#[d]⟩ (Nat.le_refl 1) 0 _ (str l) rfl
  have hn : Lib.countB (str l) ⟨#[d]⟩ + 1 = (Tg.sp d l).length := by rw [← hs, List.length_map, hlen]
  have hc : (Lib.splitB ⟨#[d]⟩ 0 (Lib.countB (str l) ⟨#[d]⟩) (str l)).map Value.string = strCells (Tg.sp d l) := by
    rw [← hs]; simp [strCells, str_of]
  rw [hn, hc]
  refine ⟨⟨_, rfl, _, _, rfl, .inr ⟨w.heap.size, 0, rfl, by simp, fun j hj => ?_⟩⟩, (Below.refl _ _).alloc (Nat.le_refl _) _⟩
  rw [World.cell?_alloc_at _ _ _ _ (by rfl)]
  simp [strCells, hj]
theorem up_ch (r : Nat) (h : r < 16) : Lib.toUpperA [Oct.ch r] = [Tg.up r] ∧ (Oct.ch r).toNat < 128 := by
  have : ∀ k : Fin 16, Lib.toUpperA [Oct.ch k.1] = [Tg.up k.1] ∧ (Oct.ch k.1).toNat < 128 := by decide +kernel
  exact this ⟨r, h⟩
theorem upper_print (n : Nat) (hn : n < 256) : (∀ c ∈ Oct.print n 16, c.toNat < 128) ∧ (n < 16 → Lib.toUpperA (Oct.print n 16) = [Tg.up n]) ∧ (16 ≤ n → Lib.toUpperA (Oct.print n 16) = [Tg.up (n / 16), Tg.up (n % 16)]) := by
  have e : Oct.print n 16 = Oct.dgs 16 n := rfl
  rw [e]
  by_cases h : n < 16
  · rw [Oct.dgs_last h]
    have := up_ch n h
    exact ⟨fun c hc => by rw [List.mem_singleton] at hc; rw [hc]; exact this.2, fun _ => this.1, fun h2 => by omega⟩
  · rw [Oct.dgs_more (by decide) (by omega), Oct.dgs_last (by omega)]
    have h1 := up_ch (n / 16) (by omega)
    have h2 := up_ch (n % 16) (by omega)
    refine ⟨fun c hc => ?_, fun h3 => absurd h3 h, fun _ => ?_⟩
    · rcases List.mem_append.1 hc with hc | hc <;> rw [List.mem_singleton] at hc <;> rw [hc]
      · exact h1.2
      · exact h2.2
    · have e2 : ∀ a b : List UInt8, Lib.toUpperA (a ++ b) = Lib.toUpperA a ++ Lib.toUpperA b := fun a b => by simp [Lib.toUpperA]
      rw [e2, h1.1, h2.1]; rfl
set_option maxHeartbeats 800000 in
set_option maxRecDepth 100000 in
theorem decoded_s (n : Nat) (w : World) (hn : n < 256) (hT : Tabs w) :
    Calls Tryz.prog 207 #[.int .u8 n] w fun e w' => e = .returned (.string (str (Tg.norm n))) ∧ Below w.heap.size w w' := by
  obtain ⟨c, hc⟩ : ∃ c : UInt8, c = UInt8.ofNat n := ⟨_, rfl⟩
  have hcn : c.toNat = n := by rw [hc]; simp; omega
  have cI := fun (x : ByteArray) (w : World) (hx : x = str freeS) => in_freeS c x w hx
  have HV : Hid (Tg.norm n = if Tg.free c then [c] else [37, Tg.up (n / 16), Tg.up (n % 16)]) := by rw [hc]; exact Lib.hid rfl
  rw [hcn] at cI
  cases hf : Tg.free c with
  | true =>
    rw [hf] at cI HV
    have hB := fun (W : World) => (Buf.one (Below.refl W.heap.size W) c (n : Int) (by rw [hcn])).string
    have HV2 : Hid (Tg.norm n = [c]) := by rw [HV.out]; exact Lib.hid rfl
    clear HV hf hc hcn
    go_enter Tryz.func207, Tryz.ntmps207
    rw [lit_free]
    go_wp2_with fail
    refine (cI _ _ (by rfl)).mono ?_
    rintro e w1 ⟨rfl, hb⟩
    go_wp2_with fail
    go_ret
    exact ⟨by rw [HV2.out]; rfl, hb.alloc hb.size _⟩
  | false =>
    rw [hf] at cI HV
    have cP := fun (W : World) (hb : Below w.heap.size w W) => Print_s n 16 W (by omega) (hT.later hb)
    have hup := upper_print n hn
    have cU := fun W => Tryz.strings_ToUpper_ascii (str (Oct.print n 16)) W (by rw [str_size]; have := Oct.dgs_len16 n (by omega); show (Oct.dgs 16 n).length ≤ _; omega) (fun j b hj => hup.1 b (by rw [str_list] at hj; exact List.mem_of_getElem? hj))
    rw [str_list] at cU
    have cU2 : ∀ W, Calls Tryz.prog 233 #[.string (str (Oct.print n 16))] W fun e w' => e = .returned (.string (str (Lib.toUpperA (Oct.print n 16)))) ∧ Below W.heap.size W w' := cU
    by_cases h16 : n < 16
    · have HV2 : Hid ((⟨#[37]⟩ : ByteArray) ++ ((⟨#[48]⟩ : ByteArray) ++ str [Tg.up n]) = str (Tg.norm n)) := by
        refine Lib.hid (str_same ?_)
        rw [HV.out, if_neg (by decide), app_data, app_data, str_list, Nat.div_eq_of_lt h16, Nat.mod_eq_of_lt h16]; rfl
      rw [hup.2.1 h16] at cU2
      have hsz : ((str [Tg.up n]).size : Int) < 2 := by rw [str_size]; simp
      generalize str [Tg.up n] = x at *
      generalize str (Oct.print n 16) = y at *
      clear HV hf hc hcn cU hup hT
      go_enter Tryz.func207, Tryz.ntmps207
      rw [lit_free]
      go_wp2_with fail
      refine (cI _ _ (by rfl)).mono ?_
      rintro e w1 ⟨rfl, hb⟩
      go_wp2_with fail
      refine (cP _ hb).mono ?_
      rintro e w2 ⟨rfl, hb2⟩
      go_wp2_with fail
      refine (cU2 _).mono ?_
      rintro e w3 ⟨rfl, hb3⟩
      go_wp2_with fail
      go_ret
      exact ⟨by rw [← HV2.out]; rfl, bt' (bt' hb hb2) hb3⟩
    · have HV2 : Hid ((⟨#[37]⟩ : ByteArray) ++ str [Tg.up (n / 16), Tg.up (n % 16)] = str (Tg.norm n)) := by
        refine Lib.hid (str_same ?_)
        rw [HV.out, if_neg (by decide), app_data, str_list]; rfl
      rw [hup.2.2 (by omega)] at cU2
      have hsz : ¬ ((str [Tg.up (n / 16), Tg.up (n % 16)]).size : Int) < 2 := by rw [str_size]; simp
      have hsz2 : (str [Tg.up (n / 16), Tg.up (n % 16)]).size ≤ 100 := by rw [str_size]; simp
      generalize str [Tg.up (n / 16), Tg.up (n % 16)] = x at *
      generalize str (Oct.print n 16) = y at *
      clear HV hf hc hcn cU hup hT
      go_enter Tryz.func207, Tryz.ntmps207
      rw [lit_free]
      go_wp2_with fail
      refine (cI _ _ (by rfl)).mono ?_
      rintro e w1 ⟨rfl, hb⟩
      go_wp2_with fail
      refine (cP _ hb).mono ?_
      rintro e w2 ⟨rfl, hb2⟩
      go_wp2_with fail
      refine (cU2 _).mono ?_
      rintro e w3 ⟨rfl, hb3⟩
      go_wp2_with fail
      go_ret
      exact ⟨by rw [← HV2.out]; rfl, bt' (bt' hb hb2) hb3⟩
end Go.Proofs.YtoanelobggledaaGreatDoor

namespace Go.Proofs.YtoanelobggledaaGreatDoor
open Go.RowKit

def eres : Option (List UInt8) → Value
  | none => .tuple #[.string ⟨#[]⟩, .bool false]
  | some m => .tuple #[.string (str m), .bool true]
def ESt (p : UInt8 → Bool) (R : Option (List UInt8)) (P : List (List UInt8)) (k : Nat) (acc : List UInt8) : Prop :=
  if k = 0 then acc = [] ∧ R = Tg.evens p P else R = (Tg.tails p (P.drop k)).map (acc ++ ·)
theorem ESt.first {p : UInt8 → Bool} {R : Option (List UInt8)} {P : List (List UInt8)} {acc : List UInt8} (h : ESt p R P 0 acc) (h0 : 0 < P.length) : acc = [] ∧ (Oct.allOf p P[0] = true → ESt p R P 1 P[0]) ∧ (Oct.allOf p P[0] = false → R = none) := by
  obtain ⟨h1, h2⟩ : acc = [] ∧ R = Tg.evens p P := by simpa [ESt] using h
  cases P with
  | nil => simp at h0
  | cons x xs =>
    refine ⟨h1, fun hp => ?_, fun hp => ?_⟩
    · show R = _
      have hp : x.all p = true := hp
      rw [h2]; simp only [Tg.evens, Tg.first, hp, if_true]; rfl
    · have hp : x.all p = false := hp
      rw [h2]; simp [Tg.evens, Tg.first, hp]
theorem ESt.next {p : UInt8 → Bool} {R : Option (List UInt8)} {P : List (List UInt8)} {k : Nat} {acc : List UInt8} (h : ESt p R P k acc) (hk : 0 < k) (hkl : k < P.length) :
    (Tg.later p P[k] = none → R = none) ∧ (∀ y, Tg.later p P[k] = some y → ESt p R P (k + 1) (acc ++ y)) := by
  have h1 : R = (Tg.tails p (P.drop k)).map (acc ++ ·) := by unfold ESt at h; rwa [if_neg (by omega)] at h
  rw [List.drop_eq_getElem_cons hkl] at h1
  refine ⟨fun hn => ?_, fun y hy => ?_⟩
  · rw [h1]; simp [Tg.tails, hn]
  · unfold ESt
    rw [if_neg (by omega), h1]
    simp only [Tg.tails, hy, Option.bind_some]
    cases Tg.tails p (P.drop (k + 1)) <;> simp
theorem ESt.done {p : UInt8 → Bool} {R : Option (List UInt8)} {P : List (List UInt8)} {k : Nat} {acc : List UInt8} (h : ESt p R P k acc) (hk : 0 < k) (hkl : P.length ≤ k) : R = some acc := by
  have h1 : R = (Tg.tails p (P.drop k)).map (acc ++ ·) := by unfold ESt at h; rwa [if_neg (by omega)] at h
  rw [h1, List.drop_eq_nil_of_le hkl]; simp [Tg.tails]
theorem later_short {p : UInt8 → Bool} {x : List UInt8} (h : x.length < 2) : Tg.later p x = none := by
  match x, h with
  | [], _ => rfl
  | [_], _ => rfl
theorem later_cons (p : UInt8 → Bool) (a b : UInt8) (r : List UInt8) : Tg.later p (a :: b :: r) = if Tg.hexd a && Tg.hexd b && Oct.allOf p r then some (Tg.norm (16 * Oct.worth a + Oct.worth b) ++ r) else none := rfl
theorem hex_two (a b : UInt8) : Oct.number 16 255 [a, b] = if Tg.hexd a && Tg.hexd b then (((16 * Oct.worth a + Oct.worth b : Nat) : Int), 0) else (0, 10) := by
  have ea : Oct.dig 16 a = Tg.hexd a := rfl
  have eb : Oct.dig 16 b = Tg.hexd b := rfl
  unfold Oct.number
  by_cases hh : (Tg.hexd a && Tg.hexd b) = true
  · rw [if_pos hh]
    have hab := Bool.and_eq_true_iff.1 hh
    have h1 := Tg.hexd_lt hab.1
    have h2 := Tg.hexd_lt hab.2
    have : Oct.allOf (Oct.dig 16) [a, b] = true := by simp [Oct.allOf, ea, eb, hab.1, hab.2]
    rw [this, if_neg (by simp), if_neg (by decide)]
    simp only [Oct.num]
    rw [if_neg (by omega), if_neg (by omega)]
    simp; omega
  · rw [if_neg hh]
    have : Oct.allOf (Oct.dig 16) [a, b] = false := by
      simp [Oct.allOf, ea, eb]
      intro h; simpa [h] using hh
    rw [this, if_pos (by simp)]
theorem SIn.at {w : World} {A n : Nat} {P : List (List UInt8)} (h : SIn w (.slice (some ⟨A, 0, none⟩) n n) P) : ∀ j (hj : j < P.length), A < w.heap.size ∧ w.cell? ⟨A, j, none⟩ = some (.string (str P[j])) := by
  obtain ⟨ao, cap, e, h⟩ := h
  intro j hj
  obtain ⟨b, o, e2, hb, hc⟩ := h.resolve_left (fun e => by rw [e] at hj; cases hj)
  subst e2
  injection e with e3 _ _
  injection Option.some.inj e3 with e4 e5 _
  subst e4 e5
  have := hc j hj
  rw [Nat.zero_add] at this
  exact ⟨hb, this⟩
set_option maxHeartbeats 3200000 in
set_option maxRecDepth 100000 in
theorem even_s (p : UInt8 → Bool) (l : List UInt8) (v : Value) (ls : List (List UInt8)) (w : World) (hv : SIn w v ls) (hn : ls.length ≤ 100000) (hp : ∀ c, inSets ls c = p c) (hl : l.length ≤ 100000) (hm : MaxOk w) (hT : Tabs w) :
    Calls Tryz.prog 165 #[.string (str l), v] w fun e w' => e = .returned (eres (Tg.coded p l)) ∧ Below w.heap.size w w' := by
  obtain ⟨R, hR⟩ : ∃ R, R = Tg.coded p l := ⟨_, rfl⟩
  rw [← hR]
  have hRE : R = Tg.evens p (Tg.sp 37 l) := hR.trans (Tg.coded_evens p l)
  have cS := fun w hm => Split_w 37 l w (by omega) hm
  have hPl := Tg.sp_len 37 l
  have hPs := Tg.sp_size 37 l
  obtain ⟨x0, xs0, hP0⟩ := Tg.sp_cases 37 l
  have hP1 : 0 < (Tg.sp 37 l).length := by rw [hP0]; simp
  generalize Tg.sp 37 l = P at *
  generalize str l = s at *
  clear hR hP0
  obtain ⟨n, hnn⟩ : ∃ n, n = P.length := ⟨_, rfl⟩
  rw [← hnn] at cS hPl hP1
  have HN := Lib.hid hnn
  have HS := Lib.hid hPs
  have HE := Lib.hid hRE
  have HM := Lib.hid hm
  have HT := Lib.hid hT
  have hnl : n ≤ 100001 := by omega
  clear hPs hRE hnn hm hT hPl
  go_enter Tryz.func165, Tryz.ntmps165
  go_wp2_with fail
  refine (cS _ HM.out).mono ?_
  rintro e w1 ⟨⟨A, rfl, hin⟩, hb1⟩
  clear cS
  have HC := Lib.hid hin.at
  have HV := Lib.hid hv
  have HPn := HN.out
  have cO := fun (x : ByteArray) (W : World) (hb : Below w.heap.size w W) (hx : x.size ≤ 1000000) => only_s p x v ls W (HV.out.later hb) hn hp hx
  have cD := fun (m : Nat) (W : World) (hb : Below w.heap.size w W) (hm : m < 256) => decoded_s m W hm (HT.out.later hb)
  clear hin hp hn hv HPn
  go_wp2_with fail
  go_loopw [6, 14] (fun b i wr => ∃ (k : Nat) (acc : List UInt8), k ≤ n ∧ i = .int .i64 k ∧ Buf w1 wr b acc ∧ Hid (ESt p R P k acc) ∧ acc.length ≤ k * 100010) (fun _ i _ => n - (intOf i).toNat)
  case atStart => exact ⟨0, [], by omega, rfl, Buf.nil w1, by unfold ESt; rw [if_pos rfl]; exact Lib.hid ⟨rfl, HE.out⟩, by simp⟩
  case round =>
    obtain ⟨k, acc, hk, rfl, hB, HI, hac⟩ := hrel
    have hbw := bt' hb1 hB.below
    by_cases hlt : k < n
    · have hkl : k < P.length := by have := HN.out; omega
      have hxl : P[k].length ≤ 100000 := Nat.le_trans (HS.out _ (List.getElem_mem hkl)) hl
      have c1 : wr.cell? ⟨A, k, none⟩ = some (.string (str P[k])) := (hB.below.cell (p := ⟨A, k, none⟩) (HC.out k hkl).1).trans (HC.out k hkl).2
      have hxs := str_size P[k]
      by_cases h0 : k = 0
      · subst h0
        have hF := HI.out.first hkl
        obtain ⟨rfl, hF1, hF2⟩ := hF
        have cO := fun (W : World) (hb : Below w.heap.size w W) => cO (str P[0]) W hb (by omega)
        rw [str_list] at cO
        have hxd : (str P[0]).data.toList = P[0] := str_list _
        cases ha : Oct.allOf p P[0] with
        | false =>
          have HR := Lib.hid (hF2 ha)
          rw [ha] at cO
          generalize str P[0] = x at *
          clear hF1 hF2 ha hxd HI
          go_wp2_with fail
          refine (cO _ hbw).mono ?_
          rintro e W ⟨rfl, rfl⟩
          go_wp2_with fail
          go_ret2
          exact ⟨by rw [HR.out]; rfl, hbw⟩
        | true =>
          have HI2 := Lib.hid (hF1 ha)
          rw [ha] at cO
          generalize str P[0] = x at *
          clear hF1 hF2 ha HI
          go_wp2_with fail
          refine (cO _ hbw).mono ?_
          rintro e W ⟨rfl, rfl⟩
          go_wp2_with (refine appStr hB x (by simp; omega) rfl _ _ rfl rfl rfl ?_; intro v2 W2 hB2)
          go_roundw
          case rel => exact ⟨1, P[0], by omega, by go_num, by rw [hxd] at hB2; exact hB2, HI2, by omega⟩
          case measure => simp [intOf]; omega
      · have hk0 : (0 : Int) < k := by omega
        have hX := HI.out.next (by omega) hkl
        clear h0
        by_cases h2 : P[k].length < 2
        · have HR := Lib.hid (hX.1 (later_short h2))
          have h2x : ((str P[k]).size : Int) < 2 := by omega
          generalize str P[k] = x at *
          clear hX HI h2 hxs
          go_wp2_with fail
          go_ret2
          exact ⟨by rw [HR.out]; rfl, hbw⟩
        · obtain ⟨a, b', r, hab⟩ : ∃ a b' r, P[k] = a :: b' :: r := by
            match hh : P[k], h2 with
            | [], h2 => exact absurd (by simp) h2
            | [_], h2 => exact absurd (by simp) h2
            | a :: b' :: r, _ => exact ⟨a, b', r, rfl⟩
          have h2x : ¬ ((str P[k]).size : Int) < 2 := by omega
          have hxd : (str P[k]).data.toList = a :: b' :: r := by rw [str_list, hab]
          have hrl : r.length ≤ 100000 := by rw [hab] at hxl; simp at hxl; omega
          have hxz : (str P[k]).size = r.length + 2 := by rw [str_size, hab]; simp
          rw [hab] at hX
          rw [later_cons] at hX
          generalize str P[k] = x at *
          have e2 : (x.extract 0 2).data.toList = [a, b'] := by rw [Lib.extract_data, hxd]; simp
          have er : (x.extract 2 x.size).data.toList = r := by
            rw [Lib.extract_data, hxd, List.take_of_length_le]
            · rfl
            · simp; omega
          have hx2 : (2 : Int) ≤ x.size := by omega
          have hxz2 : (x.extract 2 x.size).size ≤ 1000000 := by simp; omega
          have hxz3 : (x.extract 2 x.size).size = r.length := by rw [Lib.size_eq, er]
          have hx0 : (x.extract 0 2).size ≤ 1000000 := by simp; omega
          have h2h := hex_two a b'
          rw [← e2] at h2h
          have cO := fun (W : World) (hb : Below w.heap.size w W) => cO (x.extract 2 x.size) W hb hxz2
          rw [er] at cO
          clear hab HI hxl hxs h2 hxz hxz2
          cases hh : (Tg.hexd a && Tg.hexd b') with
          | false =>
            have HR : Hid (R = none) := Lib.hid (hX.1 (by rw [hh]; rfl))
            have cH2 : ∀ W, Calls Tryz.prog 206 #[.string (x.extract 0 2), .int .i64 255] W fun r w' => r = .returned (.tuple #[.int .i64 0, .int .i64 10]) ∧ Below W.heap.size W w' := by
              intro W; exact Hex_is (x.extract 0 2) 255 0 10 W hx0 (by decide) (by decide) (by rw [h2h, hh]; rfl)
            clear hX hh h2h e2
            go_wp2_with fail
            refine (cH2 _).mono ?_
            rintro e W ⟨rfl, hb2⟩
            go_wp2_with fail
            go_ret2
            exact ⟨by rw [HR.out]; rfl, bt' hbw hb2⟩
          | true =>
            obtain ⟨m, hm⟩ : ∃ m, m = 16 * Oct.worth a + Oct.worth b' := ⟨_, rfl⟩
            have cH2 : ∀ W, Calls Tryz.prog 206 #[.string (x.extract 0 2), .int .i64 255] W fun r w' => r = .returned (.tuple #[.int .i64 m, .int .i64 0]) ∧ Below W.heap.size W w' := by
              intro W; exact Hex_is (x.extract 0 2) 255 m 0 W hx0 (by decide) (by decide) (by rw [h2h, hh, ← hm]; rfl)
            have hm256 : m < 256 := by
              have hab := Bool.and_eq_true_iff.1 hh
              have h1 := Tg.hexd_lt hab.1
              have h2 := Tg.hexd_lt hab.2
              omega
            have hw8 : IntKind.u8.wrap (m : Int) = (m : Int) := by rw [IntKind.wrap_u8]; omega
            rw [hh, ← hm] at hX
            have hnl3 := Tg.norm_len m
            have hsn := str_size (Tg.norm m)
            have hdn := str_list (Tg.norm m)
            have HX := Lib.hid hX
            have cD := fun (W : World) (hb : Below w.heap.size w W) => cD m W hb hm256
            generalize str (Tg.norm m) = z at *
            clear hh h2h hX hxd e2 hm hx0
            go_wp2_with fail
            refine (cH2 _).mono ?_
            rintro e W2 ⟨rfl, hb2⟩
            have hbw2 := bt' hbw hb2
            have hB2 := hB.after hb2
            have hzl : acc.length + z.size ≤ 100000000000 := by omega
            have hlen2 : (acc ++ z.data.toList).length ≤ k * 100010 + 3 := by rw [List.length_append, Oct.length_size]; omega
            have hyl : (acc ++ z.data.toList).length + (x.extract 2 x.size).size ≤ 100000000000 := by omega
            have HZL := Lib.hid hzl
            have HYL := Lib.hid hyl
            have HL : Hid ((acc ++ (Tg.norm m ++ r)).length ≤ (k + 1) * 100010) := by
              have : (acc ++ (Tg.norm m ++ r)).length ≤ (k + 1) * 100010 := by rw [List.length_append, List.length_append]; omega
              exact Lib.hid this
            clear hzl hlen2 hyl hac hnl3 hsn hxz3
            cases ha : Oct.allOf p r with
            | false =>
              have HR : Hid (R = none) := Lib.hid (HX.out.1 (by rw [ha]; rfl))
              rw [ha] at cO
              clear HX ha
              go_wp2_with fail
              refine (cD _ hbw2).mono ?_
              rintro e W3 ⟨rfl, hb3⟩
              have hbw3 := bt' hbw2 hb3
              have hB3 := hB2.after hb3
              go_wp2_with (at_builtin; refine appStr hB3 z HZL.out rfl _ _ rfl rfl rfl ?_; intro v4 W4 hB4)
              have hbw4 := bt' hb1 hB4.below
              refine (cO _ hbw4).mono ?_
              rintro e W5 ⟨rfl, rfl⟩
              go_wp2_with fail
              go_ret2
              exact ⟨by rw [HR.out]; rfl, hbw4⟩
            | true =>
              have HI2 : Hid (ESt p R P (k + 1) (acc ++ (Tg.norm m ++ r))) := Lib.hid (HX.out.2 _ (by rw [ha]; rfl))
              rw [ha] at cO
              have hyd := er
              have HF : Hid (acc ++ z.data.toList ++ (x.extract 2 x.size).data.toList = acc ++ (Tg.norm m ++ r)) := by rw [hyd, hdn, List.append_assoc]; exact Lib.hid rfl
              clear HX ha hyd er
              go_wp2_with fail
              refine (cD _ hbw2).mono ?_
              rintro e W3 ⟨rfl, hb3⟩
              have hbw3 := bt' hbw2 hb3
              have hB3 := hB2.after hb3
              go_wp2_with (at_builtin; refine appStr hB3 z HZL.out rfl _ _ rfl rfl rfl ?_; intro v4 W4 hB4)
              have hbw4 := bt' hb1 hB4.below
              refine (cO _ hbw4).mono ?_
              rintro e W5 ⟨rfl, rfl⟩
              go_wp2_with (at_builtin; refine appStr hB4 (x.extract 2 x.size) HYL.out rfl _ _ rfl rfl rfl ?_; intro v6 W6 hB6)
              go_roundw
              case rel => exact ⟨k + 1, acc ++ (Tg.norm m ++ r), by omega, by go_num, by rw [← HF.out]; exact hB6, HI2, HL.out⟩
              case measure => simp [intOf]; omega
    · obtain rfl : k = n := by omega
      have HR := Lib.hid (HI.out.done (by omega) (by have := HN.out; omega))
      have hS := hB.string
      go_wp2_with fail
      go_ret2
      exact ⟨by rw [HR.out]; rfl, hbw⟩
end Go.Proofs.YtoanelobggledaaGreatDoor

namespace Go.Proofs.YtoanelobggledaaGreatDoor
open Go.RowKit

theorem SBuf.form {W w : World} {v : Value} {ls : List (List UInt8)} (h : SBuf W w v ls) : (v = .slice none 0 0 ∧ ls = []) ∨ ∃ g cap, v = .slice (some ⟨g, 0, none⟩) ls.length cap ∧ ls.length ≤ cap ∧ g < w.heap.size ∧ ∀ j (hj : j < ls.length), w.cell? ⟨g, j, none⟩ = some (.string (str ls[j])) := by
  rcases h.1.2 with ⟨hv, h0⟩ | ⟨g, cap, cur, hv, hg, hh, h1, h2, h3, h4⟩
  · exact .inl ⟨hv, List.eq_nil_of_length_eq_zero h0⟩
  · refine .inr ⟨g, cap, hv, h1, lt_of_block hh, fun j hj => ?_⟩
    have h5 : cur.toList[j]? = some (.string (str ls[j])) := by
      have h6 : (cur.toList.take (ls.length * 1))[j]? = (strCells ls)[j]? := by rw [h4]
      rw [List.getElem?_take_of_lt (by omega)] at h6
      rw [h6]; simp [strCells, hj]
    simp only [World.cell?, hh]
    simpa using h5
theorem SBuf.shrink {W w : World} {g cap : Nat} {ls : List (List UInt8)} {x : List UInt8} (h : SBuf W w (.slice (some ⟨g, 0, none⟩) (ls.length + 1) cap) (ls ++ [x])) : SBuf W w (.slice (some ⟨g, 0, none⟩) ls.length cap) ls := by
  refine ⟨⟨by simp [strCells], ?_⟩, h.2⟩
  rcases h.1.2 with ⟨hv, _⟩ | ⟨g', cap', cur, hv, hg, hh, h1, h2, h3, h4⟩
  · cases hv
  · injection hv with e1 e2 e3
    injection Option.some.inj e1 with e4 _ _
    subst e4 e3
    refine .inr ⟨g, cap, cur, rfl, hg, hh, by simp at h1; omega, h2, h3, ?_⟩
    have h5 := congrArg (List.take (ls.length * 1)) h4
    rw [List.take_take, Nat.min_eq_left (by simp)] at h5
    rw [h5]
    simp [strCells]
theorem SBuf.ends {W w : World} {b : Value} {kept : List (List UInt8)} (hB : SBuf W w b kept) : (kept = [] ∧ ∃ ao cp, b = .slice ao 0 cp) ∨ (∃ ini z g cap, kept = ini ++ [z] ∧ b = .slice (some ⟨g, 0, none⟩) (ini.length + 1) cap ∧ ini.length + 1 ≤ cap) := by
  rcases hB.form with ⟨e1, e2⟩ | ⟨g, cap, e1, hcap, _, _⟩
  · exact .inl ⟨e2, _, _, e1⟩
  · rcases kept.eq_nil_or_concat with e2 | ⟨ini, z, e2⟩
    · rw [e2] at e1; exact .inl ⟨e2, _, _, e1⟩
    · rw [List.concat_eq_append] at e2
      refine .inr ⟨ini, z, g, cap, e2, ?_, ?_⟩
      · rw [e1, e2]; simp
      · rw [e2] at hcap; simpa using hcap
theorem dots_plain1 {s : List UInt8} (h : ¬ s = [46]) (h2 : ¬ s = [46, 46]) (kept ss : List (List UInt8)) : Tg.dots kept (s :: ss) = Tg.dots (kept ++ [s]) ss := by
  rw [Tg.dots, if_neg (fun e => e.elim h h2)]
theorem dots_dot1 (kept : List (List UInt8)) : Tg.dots kept [[46]] = Tg.dots (kept ++ [[]]) [] := by
  conv => lhs; rw [Tg.dots, if_pos (.inl rfl)]
  simp
theorem dots_dot2 (kept : List (List UInt8)) {ss : List (List UInt8)} (h : ¬ ss = []) : Tg.dots kept ([46] :: ss) = Tg.dots kept ss := by
  rw [Tg.dots, if_pos (.inl rfl), if_neg h]; rfl
theorem dots_dd1 (kept : List (List UInt8)) : Tg.dots kept [[46, 46]] = Tg.dots (kept.dropLast ++ [[]]) [] := by
  conv => lhs; rw [Tg.dots, if_pos (.inr rfl)]
  simp
theorem dots_dd2 (kept : List (List UInt8)) {ss : List (List UInt8)} (h : ¬ ss = []) : Tg.dots kept ([46, 46] :: ss) = Tg.dots kept.dropLast ss := by
  rw [Tg.dots, if_pos (.inr rfl), if_neg h]; rfl
theorem join_slashed : ∀ (ks : List (List UInt8)), ks ≠ [] → 47 :: Lib.join ks [47] = Tg.slashed ks
  | [], h => absurd rfl h
  | [x], _ => by rw [Lib.join_one]; simp [Tg.slashed]
  | x :: y :: ks, _ => by
    have ih := join_slashed (y :: ks) (by simp)
    rw [Tg.slashed_cons, ← ih]
    show 47 :: ([47] : List UInt8).intercalate (x :: y :: ks) = _
    show _ = 47 :: x ++ 47 :: ([47] : List UInt8).intercalate (y :: ks)
    simp [List.intercalate, List.intersperse]
theorem Join_w (g cap : Nat) (ks : List (List UInt8)) (w : World) (hg : g < w.heap.size) (hc : ∀ j (hj : j < ks.length), w.cell? ⟨g, j, none⟩ = some (.string (str ks[j]))) (hcap : ks.length ≤ cap) (hl : ks.length ≤ 1000000) (hj : (Lib.join ks [47]).length ≤ 1000000) :
    Calls Tryz.prog 209 #[.slice (some ⟨g, 0, none⟩) ks.length cap, .string ⟨#[47]⟩] w fun e w' => e = .returned (.string (str (Lib.join ks [47]))) ∧ Below w.heap.size w w' := by
  have e : (ks.map str).map (·.data.toList) = ks := by simp [Function.comp_def, str_list]
  have e2 : (⟨#[47]⟩ : ByteArray).data.toList = [47] := rfl
  have h := Tryz.strings_Join g 0 cap (ks.map str) ⟨#[47]⟩ w (fun j x hx => ?_) hg (by simp; omega) (by simpa using hcap) (by rw [e, e2]; omega)
  · rw [e, e2, List.length_map] at h
    exact h
  · obtain ⟨hj, hx2⟩ := List.getElem?_eq_some_iff.1 hx
    rw [Nat.zero_add, hc j (by simpa using hj)]
    rw [← hx2]; simp
set_option maxHeartbeats 3200000 in
set_option maxRecDepth 100000 in
theorem straight_s (t : List UInt8) (w : World) (ht : t.length ≤ 100000) (hm : MaxOk w) :
    Calls Tryz.prog 166 #[.string (str (47 :: t))] w fun e w' => e = .returned (.string (str (Tg.straight (47 :: t)))) ∧ Below w.heap.size w w' := by
  obtain ⟨s, hs⟩ : ∃ s, s = str (47 :: t) := ⟨_, rfl⟩
  have hsz : s.size = t.length + 1 := by rw [hs, str_size]; rfl
  have hst : s.extract 1 s.size = str t := by
    refine str_same ?_
    rw [Lib.extract_data, hs, str_list, List.take_of_length_le]
    · rfl
    · simp [str_size]
  have h1s : (1 : Int) ≤ s.size := by omega
  rw [← hs]
  have cS := fun w hm => Split_w 47 t w (by omega) hm
  rw [← hst] at cS
  have hPl := Tg.sp_len 47 t
  obtain ⟨x0, xs0, hP0⟩ := Tg.sp_cases 47 t
  have hP1 : 0 < (Tg.sp 47 t).length := by rw [hP0]; simp
  have hD : Tg.straight (47 :: t) = Tg.slashed (Tg.dots [] (Tg.sp 47 t)) := rfl
  have hDl := Tg.straight_len t
  have hDn := Tg.dots_ne (Tg.sp 47 t) [] (.inl (by rw [hP0]; simp))
  rw [hD] at hDl ⊢
  have hPs := Tg.sp_size 47 t
  generalize Tg.sp 47 t = P at *
  clear hs hst hD hP0
  obtain ⟨n, hnn⟩ : ∃ n, n = P.length := ⟨_, rfl⟩
  rw [← hnn] at cS hPl hP1
  have HN := Lib.hid hnn
  have HDL := Lib.hid hDl
  have HDN := Lib.hid hDn
  have HPS := Lib.hid hPs
  have hnl : n ≤ 100001 := by omega
  have HM := Lib.hid hm
  clear hnn hDl hDn hPl hsz hm hPs
  have hwn : IntKind.i64.wrap ((n : Int) - 1) = (n : Int) - 1 := by rw [IntKind.wrap_i64]; omega
  go_enter Tryz.func166, Tryz.ntmps166
  go_wp2_with fail
  refine (cS _ HM.out).mono ?_
  rintro e w1 ⟨⟨A, rfl, hin⟩, hb1⟩
  clear cS
  have HC := Lib.hid hin.at
  clear hin
  go_wp2_with fail
  go_loopw [4, 12] (fun b i wr => ∃ (k : Nat) (kept : List (List UInt8)), k ≤ n ∧ i = .int .i64 k ∧ SBuf w1 wr b kept ∧ Hid (Tg.dots [] P = Tg.dots kept (P.drop k)) ∧ kept.length ≤ k) (fun _ i _ => n - (intOf i).toNat)
  case atStart => exact ⟨0, [], by omega, rfl, SBuf.nil w1, Lib.hid rfl, by simp⟩
  case round =>
    obtain ⟨k, kept, hk, rfl, hB, HI, hac⟩ := hrel
    have hbw := bt' hb1 hB.2
    by_cases hlt : k < n
    · have hkl : k < P.length := by have := HN.out; omega
      have c1 : wr.cell? ⟨A, k, none⟩ = some (.string (str P[k])) := (hB.2.cell (p := ⟨A, k, none⟩) (HC.out k hkl).1).trans (HC.out k hkl).2
      have hdk : P.drop k = P[k] :: P.drop (k + 1) := List.drop_eq_getElem_cons hkl
      have hnil : (P.drop (k + 1) = []) ↔ k + 1 = n := by rw [List.drop_eq_nil_iff, ← HN.out]; omega
      have hi := HI.out
      rw [hdk] at hi
      by_cases h1 : P[k] = [46]
      · rw [h1] at hi
        have e1 : str P[k] = ⟨#[46]⟩ := by rw [h1]; rfl
        rw [e1] at c1
        by_cases hlast : k + 1 = n
        · rw [hnil.2 hlast, dots_dot1] at hi
          have HI2 : Hid (Tg.dots [] P = Tg.dots (kept ++ [[]]) (P.drop (k + 1))) := by rw [hnil.2 hlast]; exact Lib.hid hi
          have bl : ((k : Int) == (n : Int) - 1) = true := beq_iff_eq.2 (by omega)
          have hl11 : kept.length ≤ 100000000000 := by omega
          clear hi HI hdk hnil h1 e1
          go_wp2_with (at_builtin; refine appS hB [] hl11 rfl _ _ rfl ⟨#[]⟩ rfl rfl rfl ?_; intro v2 W2 hB2 _)
          go_roundw
          case rel => exact ⟨k + 1, kept ++ [[]], by omega, by go_num, hB2, HI2, by simp; omega⟩
          case measure => simp [intOf]; omega
        · rw [dots_dot2 _ (fun e => hlast (hnil.1 e))] at hi
          have HI2 := Lib.hid hi
          have bl : ((k : Int) == (n : Int) - 1) = false := beq_eq_false_iff_ne.2 (by omega)
          clear hi HI hdk hnil h1 e1
          go_wp2_with fail
          go_roundw
          case rel => exact ⟨k + 1, kept, by omega, by go_num, hB, HI2, by omega⟩
          case measure => simp [intOf]; omega
      · by_cases h2 : P[k] = [46, 46]
        · rw [h2] at hi
          have e1 : str P[k] = ⟨#[46, 46]⟩ := by rw [h2]; rfl
          rw [e1] at c1
          clear h1 h2 e1
          rcases hB.ends with ⟨rfl, ao, cp, rfl⟩ | ⟨ini, z, g, cap, rfl, rfl, hcap⟩
          · by_cases hlast : k + 1 = n
            · rw [hnil.2 hlast, dots_dd1, List.dropLast_nil] at hi
              have bl : ((k : Int) == (n : Int) - 1) = true := beq_iff_eq.2 (by omega)
              have HI2 : Hid (Tg.dots [] P = Tg.dots (([] : List (List UInt8)) ++ [[]]) (P.drop (k + 1))) := by rw [hnil.2 hlast]; exact Lib.hid hi
              have hl11 : (([] : List (List UInt8)) : List (List UInt8)).length ≤ 100000000000 := by simp
              clear hi HI hdk hnil
              go_wp2_with (at_builtin; refine appS hB [] hl11 rfl _ _ rfl ⟨#[]⟩ rfl rfl rfl ?_; intro v2 W2 hB2 _)
              go_roundw
              case rel => exact ⟨k + 1, ([] : List (List UInt8)) ++ [[]], by omega, by go_num, hB2, HI2, by simp⟩
              case measure => simp [intOf]; omega
            · rw [dots_dd2 _ (fun e => hlast (hnil.1 e)), List.dropLast_nil] at hi
              have bl : ((k : Int) == (n : Int) - 1) = false := beq_eq_false_iff_ne.2 (by omega)
              have HI2 : Hid (Tg.dots [] P = Tg.dots [] (P.drop (k + 1))) := Lib.hid hi
              clear hi HI hdk hnil
              go_wp2_with fail
              go_roundw
              case rel => exact ⟨k + 1, [], by omega, by go_num, hB, HI2, by simp⟩
              case measure => simp [intOf]; omega
          · have hB1 := hB.shrink
            have hwi : IntKind.i64.wrap (((ini.length + 1 : Nat) : Int) - 1) = (ini.length : Int) := by rw [IntKind.wrap_i64]; simp at hac; omega
            have hil : ini.length + 1 ≤ k := by simpa using hac
            clear hB
            by_cases hlast : k + 1 = n
            · rw [hnil.2 hlast, dots_dd1, List.dropLast_concat] at hi
              have bl : ((k : Int) == (n : Int) - 1) = true := beq_iff_eq.2 (by omega)
              have HI2 : Hid (Tg.dots [] P = Tg.dots (ini ++ [[]]) (P.drop (k + 1))) := by rw [hnil.2 hlast]; exact Lib.hid hi
              have hl11 : (ini : List (List UInt8)).length ≤ 100000000000 := by omega
              clear hi HI hdk hnil
              go_wp2_with (at_builtin; refine appS hB1 [] hl11 rfl _ _ rfl ⟨#[]⟩ rfl rfl rfl ?_; intro v2 W2 hB2 _)
              go_roundw
              case rel => exact ⟨k + 1, ini ++ [[]], by omega, by go_num, hB2, HI2, by simp; omega⟩
              case measure => simp [intOf]; omega
            · rw [dots_dd2 _ (fun e => hlast (hnil.1 e)), List.dropLast_concat] at hi
              have bl : ((k : Int) == (n : Int) - 1) = false := beq_eq_false_iff_ne.2 (by omega)
              have HI2 : Hid (Tg.dots [] P = Tg.dots ini (P.drop (k + 1))) := Lib.hid hi
              clear hi HI hdk hnil
              go_wp2_with fail
              go_roundw
              case rel => exact ⟨k + 1, ini, by omega, by go_num, hB1, HI2, by simp at hac ⊢; omega⟩
              case measure => simp [intOf]; omega
        · rw [dots_plain1 h1 h2] at hi
          have HI2 := Lib.hid hi
          have b1 : ((str P[k]).toList == [46]) = false := by rw [str_toList, beq_eq_false_iff_ne.2 h1]
          have b2 : ((str P[k]).toList == [46, 46]) = false := by rw [str_toList, beq_eq_false_iff_ne.2 h2]
          clear hi HI hdk hnil
          have hl11 : kept.length ≤ 100000000000 := by omega
          go_wp2_with (at_builtin; refine appS hB P[k] hl11 rfl _ _ rfl (str P[k]) rfl rfl rfl ?_; intro v2 W2 hB2 _)
          go_roundw
          case rel => exact ⟨k + 1, kept ++ [P[k]], by omega, by go_num, hB2, HI2, by simp; omega⟩
          case measure => simp [intOf]; omega
    · obtain rfl : k = n := by omega
      have hi := HI.out
      rw [List.drop_eq_nil_of_le (by have := HN.out; omega)] at hi
      have hik : Tg.dots [] P = kept := hi
      have hne : kept ≠ [] := by rw [← hik]; exact HDN.out
      have hj := join_slashed kept hne
      have hjl : (Lib.join kept [47]).length + 1 ≤ t.length + 1 := by
        have h := HDL.out; rw [hik, ← hj] at h; simpa using h
      have HR : Hid ((⟨#[47]⟩ : ByteArray) ++ str (Lib.join kept [47]) = str (Tg.slashed (Tg.dots [] P))) := by
        rw [hik]; refine Lib.hid (str_same ?_)
        rw [app_data, str_list, ← hj]; rfl
      obtain ⟨g, cap, rfl, hcap, hg, hcell⟩ := hB.form.resolve_left (fun e => hne e.2)
      have cJ := Join_w g cap kept wr hg hcell hcap (by omega) (by omega)
      have hjs : (str (Lib.join kept [47])).size ≤ 100000 := by rw [str_size]; omega
      generalize str (Lib.join kept [47]) = J at *
      clear hcell hj hjl hne hik hi HI hcap hB hg
      generalize kept.length = K at *
      go_wp2_with fail
      refine cJ.mono ?_
      rintro e w2 ⟨rfl, hb2⟩
      go_wp2_with fail
      go_ret
      exact ⟨by rw [← HR.out]; rfl, bt' hbw hb2⟩
end Go.Proofs.YtoanelobggledaaGreatDoor

namespace Go.Proofs.YtoanelobggledaaGreatDoor
open Go.RowKit

theorem even_path (s : ByteArray) (l : List UInt8) (x y : ByteArray) (w : World) (hs : s = str l) (hx : x = str freeS) (hy : y = str pathS) (hl : l.length ≤ 100000) (hm : MaxOk w) (hT : Tabs w) :
    Calls Tryz.prog 165 #[.string s, .slice (some ⟨w.heap.size, 0, none⟩) 2 2] (w.alloc (.cells #[.string x, .string y] 9)) fun e w' => e = .returned (eres (Tg.coded Tg.pathc l)) ∧ Below w.heap.size w w' := by
  have hb : Below w.heap.size w (w.alloc (.cells #[.string x, .string y] 9)) := (Below.refl _ w).alloc (Nat.le_refl _) _
  subst hs
  refine (even_s Tg.pathc l _ _ _ (SIn.two w x y freeS pathS hx hy) (by decide) in_path hl (hm.later hb) (hT.later hb)).mono ?_
  rintro e w' ⟨he, hb2⟩
  exact ⟨he, bt' hb hb2⟩
theorem even_query (s : ByteArray) (l : List UInt8) (x y : ByteArray) (w : World) (hs : s = str l) (hx : x = str freeS) (hy : y = str queryS) (hl : l.length ≤ 100000) (hm : MaxOk w) (hT : Tabs w) :
    Calls Tryz.prog 165 #[.string s, .slice (some ⟨w.heap.size, 0, none⟩) 2 2] (w.alloc (.cells #[.string x, .string y] 9)) fun e w' => e = .returned (eres (Tg.coded Tg.queryc l)) ∧ Below w.heap.size w w' := by
  have hb : Below w.heap.size w (w.alloc (.cells #[.string x, .string y] 9)) := (Below.refl _ w).alloc (Nat.le_refl _) _
  subst hs
  refine (even_s Tg.queryc l _ _ _ (SIn.two w x y freeS queryS hx hy) (by decide) in_query hl (hm.later hb) (hT.later hb)).mono ?_
  rintro e w' ⟨he, hb2⟩
  exact ⟨he, bt' hb hb2⟩
def ures (x : Tg.U × Int) : Value := .tuple #[uval x.1, .int .i64 x.2]
theorem box_cell {w : World} {g : Nat} {a b c : Value} {t : TypeId} {fz : Nat × Nat} (h : w.heap[g]? = some (.cells #[a, b, c] t fz)) : w.cell? ⟨g, 0, none⟩ = some a ∧ w.cell? ⟨g, 1, none⟩ = some b ∧ w.cell? ⟨g, 2, none⟩ = some c := by
  simp [World.cell?, h]
set_option maxHeartbeats 3200000 in
set_option maxRecDepth 100000 in
theorem at_s (u : Tg.U) (t : List UInt8) (w : World) (hh : u.host.length ≤ 100000) (ht : t.length ≤ 90000) (hm : MaxOk w) (hT : Tabs w) :
    Calls Tryz.prog 125 #[uval u, .string (str (47 :: t))] w fun e w' => e = .returned (ures (Tg.atU u.host u.port (47 :: t))) ∧ Below w.heap.size w w' := by
  obtain ⟨hst, prt, pth⟩ := u
  simp only [] at hh ⊢
  rw [uval_mk]
  obtain ⟨s, hs⟩ : ∃ s, s = str (47 :: t) := ⟨_, rfl⟩
  have hsd : s.data.toList = 47 :: t := by rw [hs, str_list]
  have hsz : s.size = t.length + 1 := by rw [hs, str_size]; rfl
  rw [← hs]
  obtain ⟨N, hN⟩ : ∃ N, N = Tg.ahead Tg.qm t := ⟨_, rfl⟩
  have hNl : N ≤ t.length := by rw [hN]; exact Tg.ahead_le _ _
  have hN1 : Tg.ahead Tg.qm (47 :: t) = N + 1 := by rw [Tg.ahead, if_neg (by decide), hN]
  have cA := fun w => ahead_qm s w (by omega)
  rw [hsd, hN1] at cA
  have ex0 : s.extract 0 (N + 1) = str (47 :: t.take N) := by
    refine str_same ?_
    rw [Lib.extract_data, hsd]; simp
  have ex1 : s.extract (N + 1) s.size = str (t.drop N) := by
    refine str_same ?_
    rw [Lib.extract_data, hsd, List.take_of_length_le]
    · rfl
    · simp; omega
  have HPL : Hid (Tg.place (47 :: t) = (Tg.coded Tg.pathc (47 :: t.take N)).bind fun a => (Tg.coded Tg.queryc (t.drop N)).map fun q => Tg.straight a ++ q) := by
    unfold Tg.place; rw [hN1, List.take_succ_cons, List.drop_succ_cons]; exact Lib.hid rfl
  have cE1 := fun (x y : ByteArray) (W : World) (hb : Below w.heap.size w W) (hx : x = str freeS) (hy : y = str pathS) => even_path _ _ x y W ex0 hx hy (by simp; omega) (hm.later hb) (hT.later hb)
  have cE2 := fun (x y : ByteArray) (W : World) (hb : Below w.heap.size w W) (hx : x = str freeS) (hy : y = str queryS) => even_query _ _ x y W ex1 hx hy (by simp; omega) (hm.later hb) (hT.later hb)
  have HAT : Hid (∀ r, Tg.place (47 :: t) = r → Tg.atU hst prt (47 :: t) = match r with | none => (Tg.zero, 10) | some m => (⟨hst, prt, m⟩, 0)) := Lib.hid (by rintro r rfl; rfl)
  have hcl1 : ∀ a, Tg.coded Tg.pathc (47 :: t.take N) = some a → ∃ a', a = 47 :: a' ∧ a'.length ≤ 90000 := by
    intro a ha
    have hl := Tg.coded_len _ _ ha
    rw [Tg.coded_plain _ _ _ (by decide), if_pos (by decide)] at ha
    obtain ⟨b, _, rfl⟩ := Option.map_eq_some_iff.1 ha
    refine ⟨b, rfl, ?_⟩
    simp at hl; omega
  have hcl2 : ∀ q, Tg.coded Tg.queryc (t.drop N) = some q → q.length ≤ 90000 := by
    intro q hq
    have hl := Tg.coded_len _ _ hq
    simp at hl; omega
  generalize Tg.coded Tg.pathc (47 :: t.take N) = r1 at *
  generalize Tg.coded Tg.queryc (t.drop N) = r2 at *
  have hNs : (N : Int) + 1 ≤ s.size := by omega
  have cC := fun (W : World) => Clone_s (str hst) W (by rw [str_size]; omega)
  have HM := Lib.hid hm
  have HT := Lib.hid hT
  clear hs hsd hsz hN hNl hN1 ex0 ex1 hm hT hh
  go_enter Tryz.func125, Tryz.ntmps125
  rw [lit_free]
  go_upto_region 1 with fail
  have hU0 := (Res.start w (.string (str hst)) (.int .i64 prt) (.string (str pth))).alloc (.cells #[.string ⟨#[]⟩, .int .i64 0, .string ⟨#[]⟩] 46)
  have hR0 : Res w (w.heap.size + 1) ((w.alloc (.cells #[.string (str hst), .int .i64 prt, .string (str pth)] 46)).alloc (.cells #[.string ⟨#[]⟩, .int .i64 0, .string ⟨#[]⟩] 46)) (.string ⟨#[]⟩) (.int .i64 0) (.string ⟨#[]⟩) :=
    ⟨heap_alloc2_new w _ _, hU0.below, by omega⟩
  generalize (w.alloc (.cells #[.string (str hst), .int .i64 prt, .string (str pth)] 46)).alloc (.cells #[.string ⟨#[]⟩, .int .i64 0, .string ⟨#[]⟩] 46) = W0 at hU0 hR0 ⊢
  generalize w.heap.size + 1 = G at hR0 ⊢
  go_wp2_with fail
  refine (cA _).mono ?_
  rintro e W1 ⟨rfl, hb1⟩
  have hU1 := hU0.later hb1
  have hR1 := hR0.later hb1
  clear hU0 hR0 hb1 cA
  go_wp2_with fail
  refine (cE1 _ _ _ hU1.below (by rfl) (by rfl)).mono ?_
  rintro e W2 ⟨rfl, hb2⟩
  have hU2 := hU1.later hb2
  have hR2 := hR1.later hb2
  clear hU1 hR1 hb2 cE1
  cases r1 with
  | none =>
    have HV : Hid (Tg.atU hst prt (47 :: t) = (Tg.zero, 10)) := Lib.hid (HAT.out none HPL.out)
    have e0 : eres none = .tuple #[.string ⟨#[]⟩, .bool false] := rfl
    rw [e0]
    clear HAT HPL cE2 hcl1 hcl2
    go_wp2_with (refine stU hR2 rfl (.tmp 4) (.tmp 22) rfl _ _ _ rfl rfl ?_; intro W3 hR3 _)
    (try simp only [Exit.inBlock, Exit.then])
    refine ret_uri rfl G _ _ _ rfl hR3.cell rfl ?_
    exact ⟨by rw [HV.out]; rfl, hR3.below⟩
  | some a =>
    obtain ⟨a', rfl, hal⟩ := hcl1 a rfl
    have e0 : eres (some (47 :: a')) = .tuple #[.string (str (47 :: a')), .bool true] := rfl
    rw [e0]
    clear hcl1
    go_wp2_with fail
    refine (cE2 _ _ _ hU2.below (by rfl) (by rfl)).mono ?_
    rintro e W3 ⟨rfl, hb3⟩
    have hU3 := hU2.later hb3
    have hR3 := hR2.later hb3
    clear hU2 hR2 hb3 cE2
    cases r2 with
    | none =>
      have HV : Hid (Tg.atU hst prt (47 :: t) = (Tg.zero, 10)) := Lib.hid (HAT.out none HPL.out)
      have e0 : eres none = .tuple #[.string ⟨#[]⟩, .bool false] := rfl
      rw [e0]
      clear HAT HPL hcl2
      go_wp2_with (refine stU hR3 rfl (.tmp 4) (.tmp 33) rfl _ _ _ rfl rfl ?_; intro W4 hR4 _)
      (try simp only [Exit.inBlock, Exit.then])
      refine ret_uri rfl G _ _ _ rfl hR4.cell rfl ?_
      exact ⟨by rw [HV.out]; rfl, hR4.below⟩
    | some q =>
      have HV : Hid (Tg.atU hst prt (47 :: t) = (⟨hst, prt, Tg.straight (47 :: a') ++ q⟩, 0)) := Lib.hid (HAT.out (some _) HPL.out)
      have e0 : eres (some q) = .tuple #[.string (str q), .bool true] := rfl
      rw [e0]
      have hql := hcl2 q rfl
      have hsl := Tg.straight_len a'
      have cS := fun (W : World) (hb : Below w.heap.size w W) => straight_s a' W (by omega) (HM.out.later hb)
      have hz1 : (str (Tg.straight (47 :: a'))).size ≤ 90001 := by rw [str_size]; omega
      have hz2 : (str q).size ≤ 90000 := by rw [str_size]; exact hql
      have HSUM : Hid (str (Tg.straight (47 :: a')) ++ str q = str (Tg.straight (47 :: a') ++ q)) := Lib.hid (str_same (by rw [app_data, str_list, str_list]))
      clear HAT HPL hcl2 hal hql hsl HM HT
      generalize str (Tg.straight (47 :: a')) = X at *
      generalize str q = Y at *
      go_upto_region 9 with fail
      have hz3 : ¬ 9223372036854775807 < X.size + Y.size := by omega
      have hz4 : X.size + Y.size ≤ 9223372036854775807 := by omega
      have hc := box_cell hU3.cell
      have k0 := fun p : LateOf W3 => p.cell hc.1
      have k1 := fun p : LateOf W3 => p.cell hc.2.1
      have GC := fun p : LateOf W3 => late p (cC p.w)
      have GS := fun p : LateOf W3 => late p (cS p.w (hU3.below.trans (p.h.mono hU3.below.size)))
      have GR := fun p : LateOf W3 => hR3.later p.h
      have HGR := Lib.hid GR
      clear cC cS hU3 hR3 hc GR
      refine wp_region_late_tail 10 (by kernel_rfl) (by kernel_rfl) ?_
      simp only [List.take_succ_cons, List.take_zero, List.drop_succ_cons, List.drop_zero]
      quiet_step (fail)
      quiet_step (fail)
      quiet_step ((go_at_call 61; exact GC _))
      quiet_step (fail)
      quiet_step (fail)
      quiet_step (fail)
      quiet_step ((go_at_call 166; exact GS _))
      quiet_step (fail)
      quiet_step (fail)
      quiet_step (fail)
      refine wpQuiet_nil ?_
      intro w2 hw'
      obtain ⟨p, rfl⟩ := hw'
      have hRp := HGR.out p
      go_wp2_with (refine stU hRp rfl (.tmp 4) (.tmp 43) rfl _ _ _ rfl rfl ?_; intro W5 hR5 _)
      (try simp only [Exit.inBlock, Exit.then])
      refine ret_uri rfl G _ _ _ rfl hR5.cell rfl ?_
      exact ⟨by rw [HV.out, HSUM.out]; rfl, hR5.below⟩
end Go.Proofs.YtoanelobggledaaGreatDoor

namespace Go.Proofs.YtoanelobggledaaGreatDoor
open Go.RowKit

theorem long_one (s : ByteArray) (l : List UInt8) (w : World) (hs : s = str l) :
    Calls Tryz.prog 123 #[.slice (some ⟨w.heap.size, 0, none⟩) 1 1] (w.alloc (.cells #[.string s] 9)) fun e w' => e = .returned (.bool (decide (8000 < l.length))) ∧ Below w.heap.size w w' := by
  refine (long_s _ [l] _ (SIn.one w s l hs) (by simp)).mono ?_
  rintro e w' ⟨he, rfl⟩
  have : longL [l] = decide (8000 < l.length) := by simp [longL]
  rw [this] at he
  exact ⟨he, (Below.refl _ _).alloc (Nat.le_refl _) _⟩
theorem pre_one (s : ByteArray) (l : List UInt8) (hs : s = str l) (c : UInt8) (w : World) :
    Calls Tryz.prog 128 #[.string s, .string ⟨#[c]⟩] w fun e w' => e = .returned (.bool (decide (l.head? = some c))) ∧ w' = w := by
  subst hs
  refine (Tryz.strings_HasPrefix (str l) ⟨#[c]⟩ w).mono ?_
  rintro e w' ⟨he, hw⟩
  refine ⟨?_, hw⟩
  rw [he, str_list]
  congr 2
  unfold Lib.hasPrefix
  cases l with
  | nil => rfl
  | cons d t =>
    show (([c] : List UInt8).isPrefixOf (d :: t)) = _
    simp [List.isPrefixOf, eq_comm, Bool.beq_eq_decide_eq]
set_option maxHeartbeats 3200000 in
set_option maxRecDepth 100000 in
theorem Parse_s (l : List UInt8) (w : World) (hl : l.length ≤ 1000000) (hm : MaxOk w) (hT : Tabs w) :
    Calls Tryz.prog 127 #[.string (str l)] w fun e w' => e = .returned (ures (Tg.parse l)) ∧ Below w.heap.size w w' := by
  obtain ⟨s, hs⟩ : ∃ s, s = str l := ⟨_, rfl⟩
  have hsd : s.data.toList = l := by rw [hs, str_list]
  have hsz : s.size = l.length := by rw [hs, str_size]
  rw [← hs]
  have cLo := fun w => long_one s l w hs
  have cAb := fun w => absolute_s s w (by omega)
  rw [hsd] at cAb
  have HP : Hid (Tg.parse l = if 8000 < l.length then (Tg.zero, 12) else if Tg.http l = false then (Tg.zero, 10) else match Tg.site ((l.drop 7).take (Tg.ahead Tg.sq (l.drop 7))) with | none => (Tg.zero, 10) | some x => Tg.atU x.1 x.2 (Tg.slash ((l.drop 7).drop (Tg.ahead Tg.sq (l.drop 7))))) := Lib.hid rfl
  have HM := Lib.hid hm
  have HT := Lib.hid hT
  have hR0 := Res.start w (.string ⟨#[]⟩) (.int .i64 0) (.string ⟨#[]⟩)
  by_cases h8 : 8000 < l.length
  · have HV : Hid (Tg.parse l = (Tg.zero, 12)) := by rw [HP.out, if_pos h8]; exact Lib.hid rfl
    rw [decide_eq_true h8] at cLo
    clear HP hm hT hs hsd hsz cAb h8
    go_enter Tryz.func127, Tryz.ntmps127
    go_upto_region 1 with fail
    generalize w.alloc (.cells #[.string ⟨#[]⟩, .int .i64 0, .string ⟨#[]⟩] 46) = W0 at hR0 ⊢
    go_wp2_with fail
    refine (cLo _).mono ?_
    rintro e W1 ⟨rfl, hb1⟩
    have hR1 := hR0.later hb1
    go_wp2_with (refine stU hR1 rfl (.tmp 2) (.tmp 11) rfl _ _ _ rfl rfl ?_; intro W2 hR2 _)
    (try simp only [Exit.inBlock, Exit.then])
    refine ret_uri rfl w.heap.size _ _ _ rfl hR2.cell rfl ?_
    exact ⟨by rw [HV.out]; rfl, hR2.below⟩
  rw [decide_eq_false h8] at cLo
  by_cases hh : Tg.http l = false
  · have HV : Hid (Tg.parse l = (Tg.zero, 10)) := by rw [HP.out, if_neg h8, if_pos hh]; exact Lib.hid rfl
    rw [hh] at cAb
    clear HP hm hT hs hsd hsz h8 hh
    go_enter Tryz.func127, Tryz.ntmps127
    go_upto_region 1 with fail
    generalize w.alloc (.cells #[.string ⟨#[]⟩, .int .i64 0, .string ⟨#[]⟩] 46) = W0 at hR0 ⊢
    go_wp2_with fail
    refine (cLo _).mono ?_
    rintro e W1 ⟨rfl, hb1⟩
    have hR1 := hR0.later hb1
    go_wp2_with fail
    refine (cAb _).mono ?_
    rintro e W2 ⟨rfl, hb2⟩
    have hR2 := hR1.later hb2
    go_wp2_with (refine stU hR2 rfl (.tmp 2) (.tmp 15) rfl _ _ _ rfl rfl ?_; intro W3 hR3 _)
    (try simp only [Exit.inBlock, Exit.then])
    refine ret_uri rfl w.heap.size _ _ _ rfl hR3.cell rfl ?_
    exact ⟨by rw [HV.out]; rfl, hR3.below⟩
  have hht : Tg.http l = true := by simpa using hh
  have h7 : 7 ≤ l.length := by unfold Tg.http at hht; simp at hht; exact hht.1
  have HP2 : Hid (∀ r, Tg.site ((l.drop 7).take (Tg.ahead Tg.sq (l.drop 7))) = r → Tg.parse l = match r with | none => (Tg.zero, 10) | some x => Tg.atU x.1 x.2 (Tg.slash ((l.drop 7).drop (Tg.ahead Tg.sq (l.drop 7))))) := Lib.hid (by rintro r rfl; rw [HP.out, if_neg h8, if_neg hh])
  rw [hht] at cAb
  have e7 : s.extract 7 s.size = str (l.drop 7) := by
    refine str_same ?_
    rw [Lib.extract_data, hsd, List.take_of_length_le]
    simp; omega
  have cAh := fun w => ahead_sq (s.extract 7 s.size) w (by simp; omega)
  have e7d : (s.extract 7 s.size).data.toList = l.drop 7 := by rw [e7, str_list]
  rw [e7d] at cAh
  have hsl := Tg.slash_head ((l.drop 7).drop (Tg.ahead Tg.sq (l.drop 7)))
  have hahl := Tg.ahead_le Tg.sq (l.drop 7)
  have hsize7 : (s.extract 7 s.size).size = l.length - 7 := by rw [Lib.size_eq, e7d, List.length_drop]
  rw [List.length_drop] at hahl
  generalize Tg.ahead Tg.sq (l.drop 7) = N at *
  have eh : (s.extract 7 s.size).extract 0 N = str ((l.drop 7).take N) := by
    refine str_same ?_
    rw [Lib.extract_data, e7d]; simp
  have el : (s.extract 7 s.size).extract N (s.size - 7) = str ((l.drop 7).drop N) := by
    refine str_same ?_
    rw [Lib.extract_data, e7d, List.take_of_length_le]
    simp; omega
  have cSi := fun w => site_s ((l.drop 7).take N) w (by simp; omega)
  rw [← eh] at cSi
  have hs7 : (7 : Int) ≤ s.size := by omega
  have hsN : (N : Int) ≤ (s.extract 7 s.size).size := by omega
  obtain ⟨t2, ht2, ht2l⟩ := hsl
  have cAt := fun (x : List UInt8 × Int) (hx : x.1.length ≤ 100000) (W : World) (hb : Below w.heap.size w W) => at_s ⟨x.1, x.2, []⟩ t2 W hx (by simp at ht2l; omega) (HM.out.later hb) (HT.out.later hb)
  have hsf := fun (x : List UInt8 × Int) (hx : Tg.site ((l.drop 7).take N) = some x) => (Tg.site_facts (l := (l.drop 7).take N) (h := x.1) (k := x.2) hx).2
  have htk : ((l.drop 7).take N).length ≤ 8000 := by simp; omega
  clear HP hm hT h8 hh hht e7 hahl
  cases hsi : Tg.site ((l.drop 7).take N) with
  | none =>
    have HV : Hid (Tg.parse l = (Tg.zero, 10)) := Lib.hid (HP2.out none hsi)
    have e0 : sres none = .tuple #[.agg #[.string ⟨#[]⟩, .int .i64 0, .string ⟨#[]⟩], .bool false] := rfl
    rw [hsi, e0] at cSi
    clear HP2 hsi cAt hsf htk e0 ht2 ht2l el eh e7d hsd hs hsz hsize7 h7 hl
    go_enter Tryz.func127, Tryz.ntmps127
    go_upto_region 1 with fail
    generalize w.alloc (.cells #[.string ⟨#[]⟩, .int .i64 0, .string ⟨#[]⟩] 46) = W0 at hR0 ⊢
    go_wp2_with fail
    refine (cLo _).mono ?_
    rintro e W1 ⟨rfl, hb1⟩
    have hR1 := hR0.later hb1
    go_wp2_with fail
    refine (cAb _).mono ?_
    rintro e W2 ⟨rfl, hb2⟩
    have hR2 := hR1.later hb2
    go_wp2_with fail
    refine (cAh _).mono ?_
    rintro e W3 ⟨rfl, hb3⟩
    have hR3 := hR2.later hb3
    go_wp2_with fail
    refine (cSi _).mono ?_
    rintro e W4 ⟨rfl, hb4⟩
    have hR4 := (hR3.later hb4).alloc (.cells #[.string ⟨#[]⟩, .int .i64 0, .string ⟨#[]⟩] 46)
    clear hR0 hR1 hR2 hR3 hb1 hb2 hb3 hb4
    go_wp2_with (refine stU hR4 rfl (.tmp 2) (.tmp 29) rfl _ _ _ rfl rfl ?_; intro W5 hR5 _)
    (try simp only [Exit.inBlock, Exit.then])
    refine ret_uri rfl w.heap.size _ _ _ rfl hR5.cell rfl ?_
    exact ⟨by rw [HV.out]; rfl, hR5.below⟩
  | some x =>
    have hxl := hsf x hsi
    have HV : Hid (Tg.parse l = Tg.atU x.1 x.2 (47 :: t2)) := by rw [← ht2]; exact Lib.hid (HP2.out (some x) hsi)
    have cAt := cAt x (by omega)
    obtain ⟨xh, xk⟩ := x
    simp only [] at cAt HV
    rw [uval_mk] at cAt
    have e0 : sres (some (xh, xk)) = .tuple #[.agg #[.string (str xh), .int .i64 xk, .string ⟨#[]⟩], .bool true] := rfl
    rw [hsi, e0] at cSi
    have e00 : str [] = ⟨#[]⟩ := rfl
    rw [e00] at cAt
    obtain ⟨⟨⟨ra, rb, rc⟩, rd⟩, hr⟩ : ∃ r, Tg.atU xh xk (47 :: t2) = r := ⟨_, rfl⟩
    have e1 : ures (⟨ra, rb, rc⟩, rd) = .tuple #[.agg #[.string (str ra), .int .i64 rb, .string (str rc)], .int .i64 rd] := rfl
    rw [hr, e1] at cAt
    rw [hr] at HV
    generalize str xh = sh at *
    have cPr := fun (W : World) => pre_one ((s.extract 7 s.size).extract N (s.size - 7)) _ el 47 W
    by_cases h47 : ((l.drop 7).drop N).head? = some 47
    · have hst2 : str (47 :: t2) = (s.extract 7 s.size).extract N (s.size - 7) := by rw [el, ← ht2]; unfold Tg.slash; rw [if_pos h47]
      rw [decide_eq_true h47] at cPr
      rw [hst2] at cAt
      clear HP2 hsi hsf htk e0 ht2 ht2l el eh e7d hsd hs hsz hsize7 h7 hl h47 hst2 hr e1 hxl
      go_enter Tryz.func127, Tryz.ntmps127
      go_upto_region 1 with fail
      generalize w.alloc (.cells #[.string ⟨#[]⟩, .int .i64 0, .string ⟨#[]⟩] 46) = W0 at hR0 ⊢
      go_wp2_with fail
      refine (cLo _).mono ?_
      rintro e W1 ⟨rfl, hb1⟩
      have hR1 := hR0.later hb1
      go_wp2_with fail
      refine (cAb _).mono ?_
      rintro e W2 ⟨rfl, hb2⟩
      have hR2 := hR1.later hb2
      go_wp2_with fail
      refine (cAh _).mono ?_
      rintro e W3 ⟨rfl, hb3⟩
      have hR3 := hR2.later hb3
      go_wp2_with fail
      refine (cSi _).mono ?_
      rintro e W4 ⟨rfl, hb4⟩
      have hR4 := (hR3.later hb4).alloc (.cells #[.string sh, .int .i64 xk, .string ⟨#[]⟩] 46)
      have hS4 := Res.start W4 (.string sh) (.int .i64 xk) (.string ⟨#[]⟩)
      clear hR0 hR1 hR2 hR3 hb1 hb2 hb3 hb4 cLo cAb cAh cSi
      go_upto_region 8 with fail
      generalize W4.alloc (.cells #[.string sh, .int .i64 xk, .string ⟨#[]⟩] 46) = W5 at hR4 hS4 ⊢
      generalize W4.heap.size = G5 at hS4 ⊢
      go_wp2_with fail
      refine (cPr _).mono ?_
      rintro e W6 ⟨rfl, rfl⟩
      go_wp2_with (refine ldU hS4.cell rfl (.tmp 5) rfl rfl ?_)
      refine (cAt _ hR4.below).mono ?_
      rintro e W7 ⟨rfl, hb7⟩
      have hR7 := hR4.later hb7
      go_wp2_with (refine stU hR7 rfl (.tmp 2) (.tmp 41) rfl _ _ _ rfl rfl ?_; intro W8 hR8 _)
      (try simp only [Exit.inBlock, Exit.then])
      refine ret_uri rfl w.heap.size _ _ _ rfl hR8.cell rfl ?_
      exact ⟨by rw [HV.out]; rfl, hR8.below⟩
    · have hsum : (⟨#[47]⟩ : ByteArray) ++ (s.extract 7 s.size).extract N (s.size - 7) = str (47 :: t2) := by
        refine str_same ?_
        rw [app_data, el, str_list, ← ht2]; unfold Tg.slash; rw [if_neg h47]; rfl
      rw [decide_eq_false h47] at cPr
      rw [← hsum] at cAt
      have hsz9 : ((s.extract 7 s.size).extract N (s.size - 7)).size ≤ 1000000 := by rw [el, str_size]; simp; omega
      clear HP2 hsi hsf htk e0 ht2 ht2l el eh e7d hsd hs hsz hsize7 h7 hl h47 hsum hr e1 hxl
      go_enter Tryz.func127, Tryz.ntmps127
      go_upto_region 1 with fail
      generalize w.alloc (.cells #[.string ⟨#[]⟩, .int .i64 0, .string ⟨#[]⟩] 46) = W0 at hR0 ⊢
      go_wp2_with fail
      refine (cLo _).mono ?_
      rintro e W1 ⟨rfl, hb1⟩
      have hR1 := hR0.later hb1
      go_wp2_with fail
      refine (cAb _).mono ?_
      rintro e W2 ⟨rfl, hb2⟩
      have hR2 := hR1.later hb2
      go_wp2_with fail
      refine (cAh _).mono ?_
      rintro e W3 ⟨rfl, hb3⟩
      have hR3 := hR2.later hb3
      go_wp2_with fail
      refine (cSi _).mono ?_
      rintro e W4 ⟨rfl, hb4⟩
      have hR4 := (hR3.later hb4).alloc (.cells #[.string sh, .int .i64 xk, .string ⟨#[]⟩] 46)
      have hS4 := Res.start W4 (.string sh) (.int .i64 xk) (.string ⟨#[]⟩)
      clear hR0 hR1 hR2 hR3 hb1 hb2 hb3 hb4 cLo cAb cAh cSi
      go_upto_region 8 with fail
      generalize W4.alloc (.cells #[.string sh, .int .i64 xk, .string ⟨#[]⟩] 46) = W5 at hR4 hS4 ⊢
      generalize W4.heap.size = G5 at hS4 ⊢
      go_wp2_with fail
      refine (cPr _).mono ?_
      rintro e W6 ⟨rfl, rfl⟩
      generalize (s.extract 7 s.size).extract N (s.size - 7) = Y at cAt hsz9 ⊢
      go_wp2_with (refine ldU hS4.cell rfl (.tmp 5) rfl rfl ?_)
      refine (cAt _ hR4.below).mono ?_
      rintro e W7 ⟨rfl, hb7⟩
      have hR7 := hR4.later hb7
      go_wp2_with (refine stU hR7 rfl (.tmp 2) (.tmp 41) rfl _ _ _ rfl rfl ?_; intro W8 hR8 _)
      (try simp only [Exit.inBlock, Exit.then])
      refine ret_uri rfl w.heap.size _ _ _ rfl hR8.cell rfl ?_
      exact ⟨by rw [HV.out]; rfl, hR8.below⟩
end Go.Proofs.YtoanelobggledaaGreatDoor

namespace Go.Proofs.YtoanelobggledaaGreatDoor
open Go.RowKit

theorem uval_u (u : Tg.U) : uval u = .agg #[.string (str u.host), .int .i64 u.port, .string (str u.path)] := rfl
set_option maxHeartbeats 1600000 in
set_option maxRecDepth 100000 in
theorem Print_u (u : Tg.U) (w : World) (h1 : u.host.length ≤ 1000000) (h2 : u.path.length ≤ 1000000) (h3 : u.port ≤ 9223372036854775807) (hT : Tabs w) :
    Calls Tryz.prog 163 #[uval u] w fun e w' => e = .returned (.string (str (Tg.print u))) ∧ Below w.heap.size w w' := by
  rw [uval_u]
  have hU0 := Res.start w (.string (str u.host)) (.int .i64 u.port) (.string (str u.path))
  have hz1 : (str u.host).size ≤ 1000000 := by rw [str_size]; exact h1
  have hz2 : (str u.path).size ≤ 1000000 := by rw [str_size]; exact h2
  have eh : Tg.httpT = [104, 116, 116, 112, 58, 47, 47] := rfl
  by_cases h80 : u.port = 80
  · have HV : Hid ((⟨#[104, 116, 116, 112, 58, 47, 47]⟩ : ByteArray) ++ str u.host ++ ⟨#[]⟩ ++ str u.path = str (Tg.print u)) := by
      refine Lib.hid (str_same ?_)
      rw [app_data, app_data, app_data, str_list, str_list]
      unfold Tg.print Tg.portT; rw [if_pos h80]; rfl
    rw [h80] at hU0 ⊢
    generalize str u.host = H at *
    generalize str u.path = P at *
    clear h1 h2 h3 h80 eh
    go_enter Tryz.func163, Tryz.ntmps163
    go_upto_region 1 with fail
    generalize w.alloc (.cells #[.string H, .int .i64 80, .string P] 46) = W0 at hU0 ⊢
    have hc := box_cell hU0.cell
    obtain ⟨c0, c1, c2⟩ := hc
    have hB := hU0.below
    clear hU0
    go_wp2_with fail
    go_ret
    exact ⟨by rw [← HV.out]; rfl, hB⟩
  · have b80 : (u.port != 80) = true := by rw [bne, beq_eq_false_iff_ne.2 h80]; rfl
    have HV : Hid ((⟨#[104, 116, 116, 112, 58, 47, 47]⟩ : ByteArray) ++ str u.host ++ (⟨#[58]⟩ ++ str (Oct.print u.port 10)) ++ str u.path = str (Tg.print u)) := by
      refine Lib.hid (str_same ?_)
      rw [app_data, app_data, app_data, app_data, str_list, str_list, str_list]
      unfold Tg.print Tg.portT; rw [if_neg h80]; rfl
    have cP := fun (W : World) (hb : Below w.heap.size w W) => Print_s u.port 10 W h3 (hT.later hb)
    have hz3 : (str (Oct.print u.port 10)).size ≤ 100 := by rw [str_size]; exact Oct.dgs_len10 u.port.toNat (by omega)
    generalize str u.host = H at *
    generalize str u.path = P at *
    generalize str (Oct.print u.port 10) = D at *
    generalize u.port = K at *
    clear h1 h2 h3 h80 hT eh
    go_enter Tryz.func163, Tryz.ntmps163
    go_upto_region 1 with fail
    generalize w.alloc (.cells #[.string H, .int .i64 K, .string P] 46) = W0 at hU0 ⊢
    obtain ⟨c0, c1, c2⟩ := box_cell hU0.cell
    go_wp2_with fail
    refine (cP _ hU0.below).mono ?_
    rintro e W1 ⟨rfl, hb1⟩
    have hU1 := hU0.later hb1
    obtain ⟨d0, d1, d2⟩ := box_cell hU1.cell
    have hB := hU1.below
    clear c0 c1 c2 hU0 hU1 cP hb1
    have hzs : (⟨#[58]⟩ ++ D : ByteArray).size ≤ 101 := by rw [ByteArray.size_append]; show 1 + D.size ≤ 101; omega
    go_wp2_with fail
    go_ret
    exact ⟨by rw [← HV.out]; rfl, hB⟩
theorem guard_uri (op : BinOp) (hop : op = .eql ∨ op = .neq) (x y : Nat) (c d : Tg.U) (w : World) : (eqGuard op 46 (.tmp x) (.tmp y) (uval c) (uval d)).run Tryz.prog w = .ok () w := by
  rcases hop with rfl | rfl
  · kernel_rfl
  · kernel_rfl
theorem str_beq (a b : List UInt8) : ((str a).toList == (str b).toList) = decide (a = b) := by rw [str_toList, str_toList, Bool.eq_iff_iff, beq_iff_eq, decide_eq_true_iff]
theorem eql_uri (c d : Tg.U) (w : World) : (binOp .eql 46 (uval c) (uval d)).run Tryz.prog w = .ok (.bool (decide (c = d))) w := by
  obtain ⟨a0, a1, a2⟩ := c
  obtain ⟨b0, b1, b2⟩ := d
  unfold uval
  have e1 := str_beq a0 b0
  have e2 := str_beq a2 b2
  simp only [Tg.U.mk.injEq]
  generalize str a0 = s0 at *
  generalize str a2 = s2 at *
  generalize str b0 = t0 at *
  generalize str b2 = t2 at *
  go_simp
  (repeat' split) <;> simp_all
theorem neq_uri (c d : Tg.U) (w : World) : (binOp .neq 46 (uval c) (uval d)).run Tryz.prog w = .ok (.bool (decide (c ≠ d))) w := by
  obtain ⟨a0, a1, a2⟩ := c
  obtain ⟨b0, b1, b2⟩ := d
  unfold uval
  have e1 := str_beq a0 b0
  have e2 := str_beq a2 b2
  simp only [ne_eq, Tg.U.mk.injEq]
  generalize str a0 = s0 at *
  generalize str a2 = s2 at *
  generalize str b0 = t0 at *
  generalize str b2 = t2 at *
  go_simp
  (repeat' split) <;> simp_all
set_option maxHeartbeats 1600000 in
set_option maxRecDepth 100000 in
theorem Right_u (u : Tg.U) (w : World) (h1 : u.host.length ≤ 100000) (h2 : u.path.length ≤ 100000) (h3 : u.port ≤ 9223372036854775807) (hm : MaxOk w) (hT : Tabs w) :
    Calls Tryz.prog 122 #[uval u] w fun e w' => e = .returned (.bool (Tg.right u)) ∧ Below w.heap.size w w' := by
  have hpl : (Tg.print u).length ≤ 1000000 := by
    unfold Tg.print Tg.portT
    have h4 : Tg.httpT.length = 7 := rfl
    have h5 := Oct.dgs_len10 u.port.toNat (by omega)
    have h6 : (Oct.print u.port 10).length ≤ 100 := h5
    split <;> simp <;> omega
  have cP := fun (W : World) (hb : Below w.heap.size w W) => Print_u u W (by omega) (by omega) h3 (hT.later hb)
  have cQ := fun (W : World) (hb : Below w.heap.size w W) => Parse_s (Tg.print u) W hpl (hm.later hb) (hT.later hb)
  obtain ⟨⟨v, e⟩, hve⟩ : ∃ r, Tg.parse (Tg.print u) = r := ⟨_, rfl⟩
  have HV : Hid (Tg.right u = (decide (e = 0) && decide (v = u))) := by
    have : Tg.right u = (decide (e = 0) && decide (v = u)) := by
      unfold Tg.right; rw [hve, Bool.eq_iff_iff]; simp [and_comm]
    exact Lib.hid this
  rw [hve] at cQ
  have e1 : ures (v, e) = .tuple #[.agg #[.string (str v.host), .int .i64 v.port, .string (str v.path)], .int .i64 e] := rfl
  rw [e1] at cQ
  have hG := fun (x y : Nat) (W : World) => guard_uri .eql (.inl rfl) x y v u W
  have hE := fun (W : World) => eql_uri v u W
  rw [uval_u, uval_u] at hE
  simp only [uval_u] at hG
  rw [uval_u] at cP
  have hU0 := Res.start w (.string (str u.host)) (.int .i64 u.port) (.string (str u.path))
  clear e1 hve hpl h1 h2 h3 hm hT
  rw [uval_u]
  generalize str (Tg.print u) = PR at *
  generalize decide (v = u) = q at *
  generalize str u.host = H at *
  generalize str u.path = P at *
  generalize u.port = K at *
  generalize str v.host = H2 at *
  generalize str v.path = P2 at *
  generalize v.port = K2 at *
  go_enter Tryz.func122, Tryz.ntmps122
  go_upto_region 1 with fail
  generalize w.alloc (.cells #[.string H, .int .i64 K, .string P] 46) = W0 at hU0 ⊢
  go_wp2_with (refine ldU hU0.cell rfl (.tmp 1) rfl rfl ?_)
  refine (cP _ hU0.below).mono ?_
  rintro e' W1 ⟨rfl, hb1⟩
  have hU1 := hU0.later hb1
  go_wp2_with fail
  refine (cQ _ hU1.below).mono ?_
  rintro e' W2 ⟨rfl, hb2⟩
  have hU2 := (hU1.later hb2).alloc (.cells #[.string H2, .int .i64 K2, .string P2] 46)
  have hS2 := Res.start W2 (.string H2) (.int .i64 K2) (.string P2)
  clear hU0 hU1 hb1 hb2 cP cQ
  go_upto_region 2 with fail
  generalize W2.alloc (.cells #[.string H2, .int .i64 K2, .string P2] 46) = W3 at hU2 hS2 ⊢
  generalize W2.heap.size = G at hS2 ⊢
  obtain ⟨c0, c1, c2⟩ := box_cell hU2.cell
  obtain ⟨d0, d1, d2⟩ := box_cell hS2.cell
  have hB := hU2.below
  clear hU2 hS2
  by_cases he : e = 0
  · subst he
    have HV2 : Hid (Tg.right u = q) := by rw [HV.out]; exact Lib.hid (by simp)
    go_wp2_with fail
    go_ret
    exact ⟨ret_bool HV2.out.symm, hB⟩
  · have b0 : (e == 0) = false := beq_eq_false_iff_ne.2 he
    have HV2 : Hid (Tg.right u = false) := by rw [HV.out]; exact Lib.hid (by simp [he])
    clear he
    go_wp2_with fail
    go_ret
    exact ⟨ret_bool HV2.out.symm, hB⟩
end Go.Proofs.YtoanelobggledaaGreatDoor

namespace Go.Proofs.YtoanelobggledaaGreatDoor
open Go.RowKit

theorem upto_last : ∀ (a b : List UInt8), (∀ c ∈ b, c ≠ 47) → Tg.upto (a ++ 47 :: b) = a ++ [47]
  | [], b, hb => by
    have : Tg.upto b = [] := by
      cases b with
      | nil => rfl
      | cons c t =>
        rw [Tg.upto, if_neg]
        intro h
        rcases h with h | h
        · exact hb c (by simp) h
        · exact hb 47 (by simp [h]) rfl
    show Tg.upto (47 :: b) = _
    rw [Tg.upto, if_pos (.inl rfl), this]; rfl
  | c :: a, b, hb => by
    show Tg.upto (c :: (a ++ 47 :: b)) = _
    rw [Tg.upto, if_pos (.inr (by simp)), upto_last a b hb]; rfl
theorem last_upto (l : List UInt8) (h : (47 : UInt8) ∈ l) : ∃ m : Nat, Lib.lastIndexByte (str l) 47 = (m : Int) ∧ m + 1 ≤ l.length ∧ l.take (m + 1) = Tg.upto l := by
  have hz := str_size l
  have hg : ∀ j (hj : j < l.length), (str l).data[j]! = l[j] := fun j hj => by
    rw [getElem!_pos (str l).data j (by simpa [str] using hj)]; simp [str]
  rcases Lib.lastIndexByte_spec (str l) 47 with ⟨_, hn⟩ | ⟨i, hi, e, hc, hn⟩
  · exfalso
    obtain ⟨j, hj, hje⟩ := List.getElem_of_mem h
    apply hn j (by omega)
    rw [hg j hj, hje]; rfl
  · rw [hz] at hi
    refine ⟨i, e, by omega, ?_⟩
    have hs : l = l.take i ++ 47 :: l.drop (i + 1) := by
      have h1 : l[i] = 47 := by
        rw [hg i hi] at hc
        exact UInt8.toNat_inj.1 (by have : (47 : UInt8).toNat = 47 := rfl; omega : (l[i]).toNat = (47 : UInt8).toNat)
      conv => lhs; rw [← List.take_append_drop i l, List.drop_eq_getElem_cons hi, h1]
    have hb : ∀ c ∈ l.drop (i + 1), c ≠ 47 := by
      intro c hc2 e2
      obtain ⟨j, hj, hje⟩ := List.getElem_of_mem hc2
      rw [List.length_drop] at hj
      apply hn (i + 1 + j) (by omega) (by omega)
      rw [hg (i + 1 + j) (by omega)]
      rw [List.getElem_drop] at hje
      rw [hje, e2]; rfl
    have hu := upto_last (l.take i) (l.drop (i + 1)) hb
    rw [← hs] at hu
    rw [hu]
    rw [List.take_succ_eq_append_getElem hi]
    have h1 : l[i] = 47 := by
      rw [hg i hi] at hc
      exact UInt8.toNat_inj.1 (by have : (47 : UInt8).toNat = 47 := rfl; omega : (l[i]).toNat = (47 : UInt8).toNat)
    rw [h1]
theorem pre_two (s : ByteArray) (l : List UInt8) (hs : s = str l) (w : World) :
    Calls Tryz.prog 128 #[.string s, .string ⟨#[47, 47]⟩] w fun e w' => e = .returned (.bool (decide (l.take 2 = [47, 47]))) ∧ w' = w := by
  subst hs
  refine (Tryz.strings_HasPrefix (str l) ⟨#[47, 47]⟩ w).mono ?_
  rintro e w' ⟨he, hw⟩
  refine ⟨?_, hw⟩
  rw [he, str_list]
  congr 2
  unfold Lib.hasPrefix
  match l with
  | [] => rfl
  | [c] => show (([47, 47] : List UInt8).isPrefixOf [c]) = _; simp [List.isPrefixOf]
  | c :: d :: t =>
    show (([47, 47] : List UInt8).isPrefixOf (c :: d :: t)) = _
    rw [Bool.eq_iff_iff, decide_eq_true_iff]
    simp [List.isPrefixOf]
    constructor
    · rintro ⟨rfl, rfl⟩; exact ⟨rfl, rfl⟩
    · rintro ⟨rfl, rfl⟩; exact ⟨rfl, rfl⟩
theorem idx0 (s : ByteArray) (c : UInt8) (t : List UInt8) (hs : s = str (c :: t)) (h : 0 < s.size) : s[0]'h = c := by
  subst hs; rfl
set_option maxHeartbeats 3200000 in
set_option maxRecDepth 100000 in
theorem res_arg (u : Tg.U) (r : List UInt8) (w : World) (hh : u.host.length ≤ 90000) (hp : u.path.length ≤ 80000) (hk : u.port ≤ 9223372036854775807) (hr : r.length ≤ 90000) (hm : MaxOk w) (hT : Tabs w) (hri : Tg.right u = false) :
    Calls Tryz.prog 91 #[uval u, .string (str r)] w fun e w' => e = .returned (ures (Tg.zero, 2)) ∧ Below w.heap.size w w' := by
  have cRi := fun (W : World) (hb : Below w.heap.size w W) => Right_u u W (by omega) (by omega) hk (hm.later hb) (hT.later hb)
  rw [uval_u] at cRi
  have cLo := fun w => long_one (str r) r w rfl
  have hU00 := Res.start w (.string (str u.host)) (.int .i64 u.port) (.string (str u.path))
  rw [hri] at cRi
  have hr2 := hr
  clear hr2 hm hT hri cLo hh hp hk hr
  rw [uval_u]
  generalize str u.host = H at *
  generalize u.port = K at *
  generalize str u.path = P at *
  generalize str r = s at *
  go_enter Tryz.func91, Tryz.ntmps91
  go_upto_region 1 with fail
  have hU0 := hU00.alloc (.cells #[.string ⟨#[]⟩, .int .i64 0, .string ⟨#[]⟩] 46)
  have hR0 : Res w (w.heap.size + 1) ((w.alloc (.cells #[.string H, .int .i64 K, .string P] 46)).alloc (.cells #[.string ⟨#[]⟩, .int .i64 0, .string ⟨#[]⟩] 46)) (.string ⟨#[]⟩) (.int .i64 0) (.string ⟨#[]⟩) :=
    ⟨heap_alloc2_new w _ _, hU0.below, by omega⟩
  generalize (w.alloc (.cells #[.string H, .int .i64 K, .string P] 46)).alloc (.cells #[.string ⟨#[]⟩, .int .i64 0, .string ⟨#[]⟩] 46) = W0 at hU0 hR0 ⊢
  generalize w.heap.size + 1 = G at hR0 ⊢
  go_wp2_with (refine ldU hU0.cell rfl (.tmp 2) rfl rfl ?_)
  refine (cRi _ hU0.below).mono ?_
  rintro e W1 ⟨rfl, hb1⟩
  have hU1 := hU0.later hb1
  have hR1 := hR0.later hb1
  clear hU00 hU0 hR0 hb1 cRi
  go_wp2_with (refine stU hR1 rfl (.tmp 4) (.tmp 10) rfl _ _ _ rfl rfl ?_; intro W9 hR9 _)
  (try simp only [Exit.inBlock, Exit.then])
  refine ret_uri rfl G _ _ _ rfl hR9.cell rfl ?_
  exact ⟨by rfl, hR9.below⟩
set_option maxHeartbeats 3200000 in
set_option maxRecDepth 100000 in
theorem res_long (u : Tg.U) (r : List UInt8) (w : World) (hh : u.host.length ≤ 90000) (hp : u.path.length ≤ 80000) (hk : u.port ≤ 9223372036854775807) (hr : r.length ≤ 90000) (hm : MaxOk w) (hT : Tabs w) (hri : Tg.right u = true) (h8 : 8000 < r.length) :
    Calls Tryz.prog 91 #[uval u, .string (str r)] w fun e w' => e = .returned (ures (Tg.zero, 12)) ∧ Below w.heap.size w w' := by
  have cRi := fun (W : World) (hb : Below w.heap.size w W) => Right_u u W (by omega) (by omega) hk (hm.later hb) (hT.later hb)
  rw [uval_u] at cRi
  have cLo := fun w => long_one (str r) r w rfl
  have hU00 := Res.start w (.string (str u.host)) (.int .i64 u.port) (.string (str u.path))
  rw [hri] at cRi
  rw [decide_eq_true h8] at cLo
  have hr2 := hr
  clear hr2 hm hT hri hh hp hk hr h8
  rw [uval_u]
  generalize str u.host = H at *
  generalize u.port = K at *
  generalize str u.path = P at *
  generalize str r = s at *
  go_enter Tryz.func91, Tryz.ntmps91
  go_upto_region 1 with fail
  have hU0 := hU00.alloc (.cells #[.string ⟨#[]⟩, .int .i64 0, .string ⟨#[]⟩] 46)
  have hR0 : Res w (w.heap.size + 1) ((w.alloc (.cells #[.string H, .int .i64 K, .string P] 46)).alloc (.cells #[.string ⟨#[]⟩, .int .i64 0, .string ⟨#[]⟩] 46)) (.string ⟨#[]⟩) (.int .i64 0) (.string ⟨#[]⟩) :=
    ⟨heap_alloc2_new w _ _, hU0.below, by omega⟩
  generalize (w.alloc (.cells #[.string H, .int .i64 K, .string P] 46)).alloc (.cells #[.string ⟨#[]⟩, .int .i64 0, .string ⟨#[]⟩] 46) = W0 at hU0 hR0 ⊢
  generalize w.heap.size + 1 = G at hR0 ⊢
  go_wp2_with (refine ldU hU0.cell rfl (.tmp 2) rfl rfl ?_)
  refine (cRi _ hU0.below).mono ?_
  rintro e W1 ⟨rfl, hb1⟩
  have hU1 := hU0.later hb1
  have hR1 := hR0.later hb1
  clear hU00 hU0 hR0 hb1 cRi
  go_wp2_with fail
  refine (cLo _).mono ?_
  rintro e W2 ⟨rfl, hb2⟩
  have hR2 := hR1.later hb2
  go_wp2_with (refine stU hR2 rfl (.tmp 4) (.tmp 14) rfl _ _ _ rfl rfl ?_; intro W9 hR9 _)
  (try simp only [Exit.inBlock, Exit.then])
  refine ret_uri rfl G _ _ _ rfl hR9.cell rfl ?_
  exact ⟨by rfl, hR9.below⟩
set_option maxHeartbeats 3200000 in
set_option maxRecDepth 100000 in
theorem res_empty (u : Tg.U) (r : List UInt8) (w : World) (hh : u.host.length ≤ 90000) (hp : u.path.length ≤ 80000) (hk : u.port ≤ 9223372036854775807) (hr : r.length ≤ 90000) (hm : MaxOk w) (hT : Tabs w) (hri : Tg.right u = true) (h8 : ¬ 8000 < r.length) (h0 : r = []) :
    Calls Tryz.prog 91 #[uval u, .string (str r)] w fun e w' => e = .returned (ures (u, 0)) ∧ Below w.heap.size w w' := by
  have cRi := fun (W : World) (hb : Below w.heap.size w W) => Right_u u W (by omega) (by omega) hk (hm.later hb) (hT.later hb)
  rw [uval_u] at cRi
  have cLo := fun w => long_one (str r) r w rfl
  have hU00 := Res.start w (.string (str u.host)) (.int .i64 u.port) (.string (str u.path))
  rw [hri] at cRi
  rw [decide_eq_false h8] at cLo
  have hok := Tg.ok_of hri
  have hok2 : Hid (Tg.Ok u) := hok
  obtain ⟨pt, hpt⟩ := hok.head
  have hps := str_size u.path
  have cQm := fun (W : World) => ahead_qm (str u.path) W (by omega)
  rw [str_list] at cQm
  have hNl := Tg.ahead_le Tg.qm u.path
  obtain ⟨N, hN⟩ : ∃ N, N = Tg.ahead Tg.qm u.path := ⟨_, rfl⟩
  rw [← hN] at cQm hNl
  have hNs : (N : Int) ≤ (str u.path).size := by omega
  have eP : (str u.path).extract 0 N = str (u.path.take N) := by
    refine str_same ?_
    rw [Lib.extract_data, str_list]; simp
  have HP0 := Lib.hid hpt
  have HPN := Lib.hid hN
  have HPL := Lib.hid hp
  have HM := Lib.hid hm
  have HT := Lib.hid hT
  have HHL := Lib.hid hh
  have cAt := fun (W : World) (hb : Below w.heap.size w W) => at_s u pt W (by omega) (by rw [hpt] at hp; simp at hp; omega) (hm.later hb) (hT.later hb)
  rw [← hpt, hok.at] at cAt
  have e1 : ures (u, 0) = .tuple #[.agg #[.string (str u.host), .int .i64 u.port, .string (str u.path)], .int .i64 0] := rfl
  rw [e1] at cAt ⊢
  rw [uval_u] at cAt ⊢
  subst h0
  have e0 : str [] = ⟨#[]⟩ := rfl
  rw [e0] at cLo ⊢
  clear hm hT hri hh hp hk hr h8 hok hpt hN hNl eP hps e0 e1
  generalize str u.host = H at *
  generalize str u.path = P at *
  generalize u.port = K at *
  go_enter Tryz.func91, Tryz.ntmps91
  go_upto_region 1 with fail
  have hU0 := hU00.alloc (.cells #[.string ⟨#[]⟩, .int .i64 0, .string ⟨#[]⟩] 46)
  have hR0 : Res w (w.heap.size + 1) ((w.alloc (.cells #[.string H, .int .i64 K, .string P] 46)).alloc (.cells #[.string ⟨#[]⟩, .int .i64 0, .string ⟨#[]⟩] 46)) (.string ⟨#[]⟩) (.int .i64 0) (.string ⟨#[]⟩) :=
    ⟨heap_alloc2_new w _ _, hU0.below, by omega⟩
  generalize (w.alloc (.cells #[.string H, .int .i64 K, .string P] 46)).alloc (.cells #[.string ⟨#[]⟩, .int .i64 0, .string ⟨#[]⟩] 46) = W0 at hU0 hR0 ⊢
  generalize w.heap.size + 1 = G at hR0 ⊢
  go_wp2_with (refine ldU hU0.cell rfl (.tmp 2) rfl rfl ?_)
  refine (cRi _ hU0.below).mono ?_
  rintro e W1 ⟨rfl, hb1⟩
  have hU1 := hU0.later hb1
  have hR1 := hR0.later hb1
  clear hU00 hU0 hR0 hb1 cRi
  go_wp2_with fail
  refine (cLo _).mono ?_
  rintro e W2 ⟨rfl, hb2⟩
  have hU2 := hU1.later hb2
  have hR2 := hR1.later hb2
  clear hU1 hR1 hb2 cLo
  go_upto_region 5 with fail
  have k2 := fun p : LateOf W2 => p.cell (box_cell hU2.cell).2.2
  have GQ := fun p : LateOf W2 => late p (cQm p.w)
  refine wp_region_late (by kernel_rfl) (by kernel_rfl) ?_
  quiet_step (fail)
  quiet_step (fail)
  quiet_step (fail)
  quiet_step (fail)
  quiet_step ((go_at_call 124; exact GQ _))
  quiet_step (fail)
  quiet_step (fail)
  refine wpQuiet_nil ?_
  rintro W3 ⟨p, rfl⟩
  have hU3 := hU2.later p.h
  have hR3 := hR2.later p.h
  generalize p.w = W3 at hU3 hR3 ⊢
  clear k2 GQ hU2 hR2 cQm
  obtain ⟨c0, c1, c2⟩ := box_cell hU3.cell
  go_wp2_with (refine ldU hU3.cell rfl (.tmp 2) rfl rfl ?_)
  refine (cAt _ hU3.below).mono ?_
  rintro e W4 ⟨rfl, hb4⟩
  have hR4 := hR3.later hb4
  go_wp2_with (refine stU hR4 rfl (.tmp 4) (.tmp 28) rfl _ _ _ rfl rfl ?_; intro W9 hR9 _)
  (try simp only [Exit.inBlock, Exit.then])
  refine ret_uri rfl G _ _ _ rfl hR9.cell rfl ?_
  exact ⟨by rfl, hR9.below⟩
set_option maxHeartbeats 3200000 in
set_option maxRecDepth 100000 in
theorem res_http (u : Tg.U) (r : List UInt8) (w : World) (hh : u.host.length ≤ 90000) (hp : u.path.length ≤ 80000) (hk : u.port ≤ 9223372036854775807) (hr : r.length ≤ 90000) (hm : MaxOk w) (hT : Tabs w) (hri : Tg.right u = true) (h8 : ¬ 8000 < r.length) (h0 : r ≠ []) (hht : Tg.http r = true) :
    Calls Tryz.prog 91 #[uval u, .string (str r)] w fun e w' => e = .returned (ures (Tg.parse r)) ∧ Below w.heap.size w w' := by
  have cRi := fun (W : World) (hb : Below w.heap.size w W) => Right_u u W (by omega) (by omega) hk (hm.later hb) (hT.later hb)
  rw [uval_u] at cRi
  have cLo := fun w => long_one (str r) r w rfl
  have hU00 := Res.start w (.string (str u.host)) (.int .i64 u.port) (.string (str u.path))
  rw [hri] at cRi
  rw [decide_eq_false h8] at cLo
  have hok := Tg.ok_of hri
  have hok2 : Hid (Tg.Ok u) := hok
  obtain ⟨pt, hpt⟩ := hok.head
  have hps := str_size u.path
  have cQm := fun (W : World) => ahead_qm (str u.path) W (by omega)
  rw [str_list] at cQm
  have hNl := Tg.ahead_le Tg.qm u.path
  obtain ⟨N, hN⟩ : ∃ N, N = Tg.ahead Tg.qm u.path := ⟨_, rfl⟩
  rw [← hN] at cQm hNl
  have hNs : (N : Int) ≤ (str u.path).size := by omega
  have eP : (str u.path).extract 0 N = str (u.path.take N) := by
    refine str_same ?_
    rw [Lib.extract_data, str_list]; simp
  have HP0 := Lib.hid hpt
  have HPN := Lib.hid hN
  have HPL := Lib.hid hp
  have HM := Lib.hid hm
  have HT := Lib.hid hT
  have HHL := Lib.hid hh
  have b0 : (str r).toList.isEmpty = false := by
    rw [str_toList]
    cases r with
    | nil => exact absurd rfl h0
    | cons _ _ => rfl
  have cAb := fun W => absolute_s (str r) W (by rw [str_size]; omega)
  rw [str_list, hht] at cAb
  have cPs := fun (W : World) (hb : Below w.heap.size w W) => Parse_s r W (by omega) (hm.later hb) (hT.later hb)
  obtain ⟨⟨⟨ra, rb, rc⟩, rd⟩, hres⟩ : ∃ x, Tg.parse r = x := ⟨_, rfl⟩
  have e1 : ures (⟨ra, rb, rc⟩, rd) = .tuple #[.agg #[.string (str ra), .int .i64 rb, .string (str rc)], .int .i64 rd] := rfl
  rw [hres, e1] at cPs ⊢
  clear hres e1 eP
  rw [uval_u]
  clear hm hT hri hh hp hk hr h8 hok hpt hN hNl hps
  generalize str u.host = H at *
  generalize str u.path = P at *
  generalize u.port = K at *
  generalize str r = s at *
  go_enter Tryz.func91, Tryz.ntmps91
  go_upto_region 1 with fail
  have hU0 := hU00.alloc (.cells #[.string ⟨#[]⟩, .int .i64 0, .string ⟨#[]⟩] 46)
  have hR0 : Res w (w.heap.size + 1) ((w.alloc (.cells #[.string H, .int .i64 K, .string P] 46)).alloc (.cells #[.string ⟨#[]⟩, .int .i64 0, .string ⟨#[]⟩] 46)) (.string ⟨#[]⟩) (.int .i64 0) (.string ⟨#[]⟩) :=
    ⟨heap_alloc2_new w _ _, hU0.below, by omega⟩
  generalize (w.alloc (.cells #[.string H, .int .i64 K, .string P] 46)).alloc (.cells #[.string ⟨#[]⟩, .int .i64 0, .string ⟨#[]⟩] 46) = W0 at hU0 hR0 ⊢
  generalize w.heap.size + 1 = G at hR0 ⊢
  go_wp2_with (refine ldU hU0.cell rfl (.tmp 2) rfl rfl ?_)
  refine (cRi _ hU0.below).mono ?_
  rintro e W1 ⟨rfl, hb1⟩
  have hU1 := hU0.later hb1
  have hR1 := hR0.later hb1
  clear hU00 hU0 hR0 hb1 cRi
  go_wp2_with fail
  refine (cLo _).mono ?_
  rintro e W2 ⟨rfl, hb2⟩
  have hU2 := hU1.later hb2
  have hR2 := hR1.later hb2
  clear hU1 hR1 hb2 cLo
  go_upto_region 5 with fail
  have k2 := fun p : LateOf W2 => p.cell (box_cell hU2.cell).2.2
  have GQ := fun p : LateOf W2 => late p (cQm p.w)
  refine wp_region_late (by kernel_rfl) (by kernel_rfl) ?_
  quiet_step (fail)
  quiet_step (fail)
  quiet_step (fail)
  quiet_step (fail)
  quiet_step ((go_at_call 124; exact GQ _))
  quiet_step (fail)
  quiet_step (fail)
  refine wpQuiet_nil ?_
  rintro W3 ⟨p, rfl⟩
  have hU3 := hU2.later p.h
  have hR3 := hR2.later p.h
  generalize p.w = W3 at hU3 hR3 ⊢
  clear k2 GQ hU2 hR2 cQm
  go_wp2_with fail
  refine (cAb _).mono ?_
  rintro e W4 ⟨rfl, hb4⟩
  have hU4 := hU3.later hb4
  have hR4 := hR3.later hb4
  clear hU3 hR3 hb4 cAb
  go_wp2_with fail
  refine (cPs _ hU4.below).mono ?_
  rintro e W6 ⟨rfl, hb6⟩
  have hR6 := hR4.later hb6
  go_wp2_with (refine stU hR6 rfl (.tmp 4) (.tmp 35) rfl _ _ _ rfl rfl ?_; intro W9 hR9 _)
  (try simp only [Exit.inBlock, Exit.then])
  refine ret_uri rfl G _ _ _ rfl hR9.cell rfl ?_
  exact ⟨by rfl, hR9.below⟩
set_option maxHeartbeats 3200000 in
set_option maxRecDepth 100000 in
theorem res_two (u : Tg.U) (r : List UInt8) (w : World) (hh : u.host.length ≤ 90000) (hp : u.path.length ≤ 80000) (hk : u.port ≤ 9223372036854775807) (hr : r.length ≤ 90000) (hm : MaxOk w) (hT : Tabs w) (hri : Tg.right u = true) (h8 : ¬ 8000 < r.length) (h0 : r ≠ []) (hht : Tg.http r = false) (h2 : r.take 2 = [47, 47]) :
    Calls Tryz.prog 91 #[uval u, .string (str r)] w fun e w' => e = .returned (ures (Tg.parse (Tg.httpT.take 5 ++ r))) ∧ Below w.heap.size w w' := by
  have cRi := fun (W : World) (hb : Below w.heap.size w W) => Right_u u W (by omega) (by omega) hk (hm.later hb) (hT.later hb)
  rw [uval_u] at cRi
  have cLo := fun w => long_one (str r) r w rfl
  have hU00 := Res.start w (.string (str u.host)) (.int .i64 u.port) (.string (str u.path))
  rw [hri] at cRi
  rw [decide_eq_false h8] at cLo
  have hok := Tg.ok_of hri
  have hok2 : Hid (Tg.Ok u) := hok
  obtain ⟨pt, hpt⟩ := hok.head
  have hps := str_size u.path
  have cQm := fun (W : World) => ahead_qm (str u.path) W (by omega)
  rw [str_list] at cQm
  have hNl := Tg.ahead_le Tg.qm u.path
  obtain ⟨N, hN⟩ : ∃ N, N = Tg.ahead Tg.qm u.path := ⟨_, rfl⟩
  rw [← hN] at cQm hNl
  have hNs : (N : Int) ≤ (str u.path).size := by omega
  have eP : (str u.path).extract 0 N = str (u.path.take N) := by
    refine str_same ?_
    rw [Lib.extract_data, str_list]; simp
  have HP0 := Lib.hid hpt
  have HPN := Lib.hid hN
  have HPL := Lib.hid hp
  have HM := Lib.hid hm
  have HT := Lib.hid hT
  have HHL := Lib.hid hh
  have b0 : (str r).toList.isEmpty = false := by
    rw [str_toList]
    cases r with
    | nil => exact absurd rfl h0
    | cons _ _ => rfl
  have cAb := fun W => absolute_s (str r) W (by rw [str_size]; omega)
  rw [str_list, hht] at cAb
  have cPt := fun (W : World) => pre_two (str r) r rfl W
  rw [decide_eq_true h2] at cPt
  have cPs := fun (W : World) (hb : Below w.heap.size w W) => Parse_s (Tg.httpT.take 5 ++ r) W (by have : (Tg.httpT.take 5).length = 5 := rfl; rw [List.length_append]; omega) (hm.later hb) (hT.later hb)
  have es : (⟨#[104, 116, 116, 112, 58]⟩ : ByteArray) ++ str r = str (Tg.httpT.take 5 ++ r) := str_same (by rw [app_data, str_list]; rfl)
  rw [← es] at cPs
  have hzz : (str r).size ≤ 90000 := by rw [str_size]; exact hr
  obtain ⟨⟨⟨ra, rb, rc⟩, rd⟩, hres⟩ : ∃ x, Tg.parse (Tg.httpT.take 5 ++ r) = x := ⟨_, rfl⟩
  have e1 : ures (⟨ra, rb, rc⟩, rd) = .tuple #[.agg #[.string (str ra), .int .i64 rb, .string (str rc)], .int .i64 rd] := rfl
  rw [hres, e1] at cPs ⊢
  clear hres e1 eP es h2
  rw [uval_u]
  clear hm hT hri hh hp hk hr h8 hok hpt hN hNl hps
  generalize str u.host = H at *
  generalize str u.path = P at *
  generalize u.port = K at *
  generalize str r = s at *
  go_enter Tryz.func91, Tryz.ntmps91
  go_upto_region 1 with fail
  have hU0 := hU00.alloc (.cells #[.string ⟨#[]⟩, .int .i64 0, .string ⟨#[]⟩] 46)
  have hR0 : Res w (w.heap.size + 1) ((w.alloc (.cells #[.string H, .int .i64 K, .string P] 46)).alloc (.cells #[.string ⟨#[]⟩, .int .i64 0, .string ⟨#[]⟩] 46)) (.string ⟨#[]⟩) (.int .i64 0) (.string ⟨#[]⟩) :=
    ⟨heap_alloc2_new w _ _, hU0.below, by omega⟩
  generalize (w.alloc (.cells #[.string H, .int .i64 K, .string P] 46)).alloc (.cells #[.string ⟨#[]⟩, .int .i64 0, .string ⟨#[]⟩] 46) = W0 at hU0 hR0 ⊢
  generalize w.heap.size + 1 = G at hR0 ⊢
  go_wp2_with (refine ldU hU0.cell rfl (.tmp 2) rfl rfl ?_)
  refine (cRi _ hU0.below).mono ?_
  rintro e W1 ⟨rfl, hb1⟩
  have hU1 := hU0.later hb1
  have hR1 := hR0.later hb1
  clear hU00 hU0 hR0 hb1 cRi
  go_wp2_with fail
  refine (cLo _).mono ?_
  rintro e W2 ⟨rfl, hb2⟩
  have hU2 := hU1.later hb2
  have hR2 := hR1.later hb2
  clear hU1 hR1 hb2 cLo
  go_upto_region 5 with fail
  have k2 := fun p : LateOf W2 => p.cell (box_cell hU2.cell).2.2
  have GQ := fun p : LateOf W2 => late p (cQm p.w)
  refine wp_region_late (by kernel_rfl) (by kernel_rfl) ?_
  quiet_step (fail)
  quiet_step (fail)
  quiet_step (fail)
  quiet_step (fail)
  quiet_step ((go_at_call 124; exact GQ _))
  quiet_step (fail)
  quiet_step (fail)
  refine wpQuiet_nil ?_
  rintro W3 ⟨p, rfl⟩
  have hU3 := hU2.later p.h
  have hR3 := hR2.later p.h
  generalize p.w = W3 at hU3 hR3 ⊢
  clear k2 GQ hU2 hR2 cQm
  go_wp2_with fail
  refine (cAb _).mono ?_
  rintro e W4 ⟨rfl, hb4⟩
  have hU4 := hU3.later hb4
  have hR4 := hR3.later hb4
  clear hU3 hR3 hb4 cAb
  go_wp2_with fail
  refine (cPt _).mono ?_
  rintro e W5 ⟨rfl, rfl⟩
  go_wp2_with fail
  refine (cPs _ hU4.below).mono ?_
  rintro e W6 ⟨rfl, hb6⟩
  have hR6 := hR4.later hb6
  go_wp2_with (refine stU hR6 rfl (.tmp 4) (.tmp 43) rfl _ _ _ rfl rfl ?_; intro W9 hR9 _)
  (try simp only [Exit.inBlock, Exit.then])
  refine ret_uri rfl G _ _ _ rfl hR9.cell rfl ?_
  exact ⟨by rfl, hR9.below⟩
end Go.Proofs.YtoanelobggledaaGreatDoor

namespace Go.Proofs.YtoanelobggledaaGreatDoor
open Go.RowKit

set_option maxHeartbeats 3200000 in
set_option maxRecDepth 100000 in
theorem res_slash (u : Tg.U) (r : List UInt8) (w : World) (hh : u.host.length ≤ 90000) (hp : u.path.length ≤ 80000) (hk : u.port ≤ 9223372036854775807) (hr : r.length ≤ 90000) (hm : MaxOk w) (hT : Tabs w) (hri : Tg.right u = true) (h8 : ¬ 8000 < r.length) (h0 : r ≠ []) (hht : Tg.http r = false) (h2 : ¬ r.take 2 = [47, 47]) (h47 : r.head? = some 47) :
    Calls Tryz.prog 91 #[uval u, .string (str r)] w fun e w' => e = .returned (ures (Tg.atU u.host u.port r)) ∧ Below w.heap.size w w' := by
  have cRi := fun (W : World) (hb : Below w.heap.size w W) => Right_u u W (by omega) (by omega) hk (hm.later hb) (hT.later hb)
  rw [uval_u] at cRi
  have cLo := fun w => long_one (str r) r w rfl
  have hU00 := Res.start w (.string (str u.host)) (.int .i64 u.port) (.string (str u.path))
  rw [hri] at cRi
  rw [decide_eq_false h8] at cLo
  have hok := Tg.ok_of hri
  have hok2 : Hid (Tg.Ok u) := hok
  obtain ⟨pt, hpt⟩ := hok.head
  have hps := str_size u.path
  have cQm := fun (W : World) => ahead_qm (str u.path) W (by omega)
  rw [str_list] at cQm
  have hNl := Tg.ahead_le Tg.qm u.path
  obtain ⟨N, hN⟩ : ∃ N, N = Tg.ahead Tg.qm u.path := ⟨_, rfl⟩
  rw [← hN] at cQm hNl
  have hNs : (N : Int) ≤ (str u.path).size := by omega
  have eP : (str u.path).extract 0 N = str (u.path.take N) := by
    refine str_same ?_
    rw [Lib.extract_data, str_list]; simp
  have HP0 := Lib.hid hpt
  have HPN := Lib.hid hN
  have HPL := Lib.hid hp
  have HM := Lib.hid hm
  have HT := Lib.hid hT
  have HHL := Lib.hid hh
  have b0 : (str r).toList.isEmpty = false := by
    rw [str_toList]
    cases r with
    | nil => exact absurd rfl h0
    | cons _ _ => rfl
  have cAb := fun W => absolute_s (str r) W (by rw [str_size]; omega)
  rw [str_list, hht] at cAb
  have cPt := fun (W : World) => pre_two (str r) r rfl W
  rw [decide_eq_false h2] at cPt
  obtain ⟨c, rt, rfl⟩ : ∃ c rt, r = c :: rt := by
    cases r with
    | nil => exact absurd rfl h0
    | cons c rt => exact ⟨c, rt, rfl⟩
  have h0s : 0 < (str (c :: rt)).size := by rw [str_size]; simp
  have hix : (str (c :: rt))[0]'h0s = c := rfl
  obtain rfl : c = 47 := by simpa using h47
  have i47 : (((str (47 :: rt))[0]'h0s).toNat : Int) = 47 := by rw [hix]; rfl
  have cAt := fun (W : World) (hb : Below w.heap.size w W) => at_s u rt W (by omega) (by simp at hr; omega) (hm.later hb) (hT.later hb)
  obtain ⟨⟨⟨ra, rb, rc⟩, rd⟩, hres⟩ : ∃ x, Tg.atU u.host u.port (47 :: rt) = x := ⟨_, rfl⟩
  have e1 : ures (⟨ra, rb, rc⟩, rd) = .tuple #[.agg #[.string (str ra), .int .i64 rb, .string (str rc)], .int .i64 rd] := rfl
  rw [hres, e1] at cAt ⊢
  clear hres e1 eP h2 h47 hix h0
  rw [uval_u] at cAt ⊢
  clear hm hT hri hh hp hk hr h8 hok hpt hN hNl hps
  generalize str u.host = H at *
  generalize str u.path = P at *
  generalize u.port = K at *
  generalize str (47 :: rt) = s at *
  go_enter Tryz.func91, Tryz.ntmps91
  go_upto_region 1 with fail
  have hU0 := hU00.alloc (.cells #[.string ⟨#[]⟩, .int .i64 0, .string ⟨#[]⟩] 46)
  have hR0 : Res w (w.heap.size + 1) ((w.alloc (.cells #[.string H, .int .i64 K, .string P] 46)).alloc (.cells #[.string ⟨#[]⟩, .int .i64 0, .string ⟨#[]⟩] 46)) (.string ⟨#[]⟩) (.int .i64 0) (.string ⟨#[]⟩) :=
    ⟨heap_alloc2_new w _ _, hU0.below, by omega⟩
  generalize (w.alloc (.cells #[.string H, .int .i64 K, .string P] 46)).alloc (.cells #[.string ⟨#[]⟩, .int .i64 0, .string ⟨#[]⟩] 46) = W0 at hU0 hR0 ⊢
  generalize w.heap.size + 1 = G at hR0 ⊢
  go_wp2_with (refine ldU hU0.cell rfl (.tmp 2) rfl rfl ?_)
  refine (cRi _ hU0.below).mono ?_
  rintro e W1 ⟨rfl, hb1⟩
  have hU1 := hU0.later hb1
  have hR1 := hR0.later hb1
  clear hU00 hU0 hR0 hb1 cRi
  go_wp2_with fail
  refine (cLo _).mono ?_
  rintro e W2 ⟨rfl, hb2⟩
  have hU2 := hU1.later hb2
  have hR2 := hR1.later hb2
  clear hU1 hR1 hb2 cLo
  go_upto_region 5 with fail
  have k2 := fun p : LateOf W2 => p.cell (box_cell hU2.cell).2.2
  have GQ := fun p : LateOf W2 => late p (cQm p.w)
  refine wp_region_late (by kernel_rfl) (by kernel_rfl) ?_
  quiet_step (fail)
  quiet_step (fail)
  quiet_step (fail)
  quiet_step (fail)
  quiet_step ((go_at_call 124; exact GQ _))
  quiet_step (fail)
  quiet_step (fail)
  refine wpQuiet_nil ?_
  rintro W3 ⟨p, rfl⟩
  have hU3 := hU2.later p.h
  have hR3 := hR2.later p.h
  generalize p.w = W3 at hU3 hR3 ⊢
  clear k2 GQ hU2 hR2 cQm
  go_wp2_with fail
  refine (cAb _).mono ?_
  rintro e W4 ⟨rfl, hb4⟩
  have hU4 := hU3.later hb4
  have hR4 := hR3.later hb4
  clear hU3 hR3 hb4 cAb
  go_wp2_with fail
  refine (cPt _).mono ?_
  rintro e W5 ⟨rfl, rfl⟩
  go_wp2_with (refine ldU hU4.cell rfl (.tmp 2) rfl rfl ?_)
  refine (cAt _ hU4.below).mono ?_
  rintro e W6 ⟨rfl, hb6⟩
  have hR6 := hR4.later hb6
  go_wp2_with (refine stU hR6 rfl (.tmp 4) (.tmp 52) rfl _ _ _ rfl rfl ?_; intro W9 hR9 _)
  (try simp only [Exit.inBlock, Exit.then])
  refine ret_uri rfl G _ _ _ rfl hR9.cell rfl ?_
  exact ⟨by rfl, hR9.below⟩
set_option maxHeartbeats 3200000 in
set_option maxRecDepth 100000 in
theorem res_query (u : Tg.U) (r : List UInt8) (w : World) (hh : u.host.length ≤ 90000) (hp : u.path.length ≤ 80000) (hk : u.port ≤ 9223372036854775807) (hr : r.length ≤ 90000) (hm : MaxOk w) (hT : Tabs w) (hri : Tg.right u = true) (h8 : ¬ 8000 < r.length) (h0 : r ≠ []) (hht : Tg.http r = false) (h2 : ¬ r.take 2 = [47, 47]) (h47 : ¬ r.head? = some 47) (h63 : r.head? = some 63) :
    Calls Tryz.prog 91 #[uval u, .string (str r)] w fun e w' => e = .returned (ures (Tg.atU u.host u.port (u.path.take (Tg.ahead Tg.qm u.path) ++ r))) ∧ Below w.heap.size w w' := by
  have cRi := fun (W : World) (hb : Below w.heap.size w W) => Right_u u W (by omega) (by omega) hk (hm.later hb) (hT.later hb)
  rw [uval_u] at cRi
  have cLo := fun w => long_one (str r) r w rfl
  have hU00 := Res.start w (.string (str u.host)) (.int .i64 u.port) (.string (str u.path))
  rw [hri] at cRi
  rw [decide_eq_false h8] at cLo
  have hok := Tg.ok_of hri
  have hok2 : Hid (Tg.Ok u) := hok
  obtain ⟨pt, hpt⟩ := hok.head
  have hps := str_size u.path
  have cQm := fun (W : World) => ahead_qm (str u.path) W (by omega)
  rw [str_list] at cQm
  have hNl := Tg.ahead_le Tg.qm u.path
  obtain ⟨N, hN⟩ : ∃ N, N = Tg.ahead Tg.qm u.path := ⟨_, rfl⟩
  rw [← hN] at cQm hNl
  have hNs : (N : Int) ≤ (str u.path).size := by omega
  have eP : (str u.path).extract 0 N = str (u.path.take N) := by
    refine str_same ?_
    rw [Lib.extract_data, str_list]; simp
  have HP0 := Lib.hid hpt
  have HPN := Lib.hid hN
  have HPL := Lib.hid hp
  have HM := Lib.hid hm
  have HT := Lib.hid hT
  have HHL := Lib.hid hh
  have b0 : (str r).toList.isEmpty = false := by
    rw [str_toList]
    cases r with
    | nil => exact absurd rfl h0
    | cons _ _ => rfl
  have cAb := fun W => absolute_s (str r) W (by rw [str_size]; omega)
  rw [str_list, hht] at cAb
  have cPt := fun (W : World) => pre_two (str r) r rfl W
  rw [decide_eq_false h2] at cPt
  obtain ⟨c, rt, rfl⟩ : ∃ c rt, r = c :: rt := by
    cases r with
    | nil => exact absurd rfl h0
    | cons c rt => exact ⟨c, rt, rfl⟩
  have h0s : 0 < (str (c :: rt)).size := by rw [str_size]; simp
  have hix : (str (c :: rt))[0]'h0s = c := rfl
  have hN1 : ∃ n, N = n + 1 := by
    rw [hpt] at hN
    rw [Tg.ahead, if_neg (by decide)] at hN
    exact ⟨_, hN⟩
  obtain ⟨n, hNn⟩ := hN1
  have htk : u.path.take N = 47 :: pt.take n := by rw [hpt, hNn]; rfl
  obtain rfl : c = 63 := by simpa using h63
  have i47 : (((str (63 :: rt))[0]'h0s).toNat : Int) = 63 := by rw [hix]; rfl
  have cAt := fun (W : World) (hb : Below w.heap.size w W) => at_s u (pt.take n ++ 63 :: rt) W (by omega) (by rw [hpt] at hp; simp at hr hp h8 ⊢; omega) (hm.later hb) (hT.later hb)
  have es : (str u.path).extract 0 N ++ str (63 :: rt) = str (47 :: (pt.take n ++ 63 :: rt)) := str_same (by rw [eP, app_data, str_list, str_list, htk]; rfl)
  rw [← es] at cAt
  rw [← hN, htk]
  have hzz : (str (63 :: rt)).size ≤ 90000 := by rw [str_size]; exact hr
  have hzy : ((str u.path).extract 0 N).size ≤ 90000 := by rw [eP, str_size, List.length_take]; omega
  obtain ⟨⟨⟨ra, rb, rc⟩, rd⟩, hres⟩ : ∃ x, Tg.atU u.host u.port (47 :: (pt.take n ++ 63 :: rt)) = x := ⟨_, rfl⟩
  have e1 : ures (⟨ra, rb, rc⟩, rd) = .tuple #[.agg #[.string (str ra), .int .i64 rb, .string (str rc)], .int .i64 rd] := rfl
  rw [hres, e1] at cAt
  rw [List.cons_append, hres, e1]
  clear hres e1 eP h2 h47 hix h0 h63 htk es hNn
  rw [uval_u] at cAt ⊢
  clear hm hT hri hh hp hk hr h8 hok hpt hN hNl hps
  generalize str u.host = H at *
  generalize str u.path = P at *
  generalize u.port = K at *
  generalize str (63 :: rt) = s at *
  go_enter Tryz.func91, Tryz.ntmps91
  go_upto_region 1 with fail
  have hU0 := hU00.alloc (.cells #[.string ⟨#[]⟩, .int .i64 0, .string ⟨#[]⟩] 46)
  have hR0 : Res w (w.heap.size + 1) ((w.alloc (.cells #[.string H, .int .i64 K, .string P] 46)).alloc (.cells #[.string ⟨#[]⟩, .int .i64 0, .string ⟨#[]⟩] 46)) (.string ⟨#[]⟩) (.int .i64 0) (.string ⟨#[]⟩) :=
    ⟨heap_alloc2_new w _ _, hU0.below, by omega⟩
  generalize (w.alloc (.cells #[.string H, .int .i64 K, .string P] 46)).alloc (.cells #[.string ⟨#[]⟩, .int .i64 0, .string ⟨#[]⟩] 46) = W0 at hU0 hR0 ⊢
  generalize w.heap.size + 1 = G at hR0 ⊢
  go_wp2_with (refine ldU hU0.cell rfl (.tmp 2) rfl rfl ?_)
  refine (cRi _ hU0.below).mono ?_
  rintro e W1 ⟨rfl, hb1⟩
  have hU1 := hU0.later hb1
  have hR1 := hR0.later hb1
  clear hU00 hU0 hR0 hb1 cRi
  go_wp2_with fail
  refine (cLo _).mono ?_
  rintro e W2 ⟨rfl, hb2⟩
  have hU2 := hU1.later hb2
  have hR2 := hR1.later hb2
  clear hU1 hR1 hb2 cLo
  go_upto_region 5 with fail
  have k2 := fun p : LateOf W2 => p.cell (box_cell hU2.cell).2.2
  have GQ := fun p : LateOf W2 => late p (cQm p.w)
  refine wp_region_late (by kernel_rfl) (by kernel_rfl) ?_
  quiet_step (fail)
  quiet_step (fail)
  quiet_step (fail)
  quiet_step (fail)
  quiet_step ((go_at_call 124; exact GQ _))
  quiet_step (fail)
  quiet_step (fail)
  refine wpQuiet_nil ?_
  rintro W3 ⟨p, rfl⟩
  have hU3 := hU2.later p.h
  have hR3 := hR2.later p.h
  generalize p.w = W3 at hU3 hR3 ⊢
  clear k2 GQ hU2 hR2 cQm
  generalize P.extract 0 N = PP at *
  go_wp2_with fail
  refine (cAb _).mono ?_
  rintro e W4 ⟨rfl, hb4⟩
  have hU4 := hU3.later hb4
  have hR4 := hR3.later hb4
  clear hU3 hR3 hb4 cAb
  go_wp2_with fail
  refine (cPt _).mono ?_
  rintro e W5 ⟨rfl, rfl⟩
  go_wp2_with (refine ldU hU4.cell rfl (.tmp 2) rfl rfl ?_)
  refine (cAt _ hU4.below).mono ?_
  rintro e W6 ⟨rfl, hb6⟩
  have hR6 := hR4.later hb6
  go_wp2_with (refine stU hR6 rfl (.tmp 4) (.tmp 63) rfl _ _ _ rfl rfl ?_; intro W9 hR9 _)
  (try simp only [Exit.inBlock, Exit.then])
  refine ret_uri rfl G _ _ _ rfl hR9.cell rfl ?_
  exact ⟨by rfl, hR9.below⟩
set_option maxHeartbeats 3200000 in
set_option maxRecDepth 100000 in
theorem res_colon (u : Tg.U) (r : List UInt8) (w : World) (hh : u.host.length ≤ 90000) (hp : u.path.length ≤ 80000) (hk : u.port ≤ 9223372036854775807) (hr : r.length ≤ 90000) (hm : MaxOk w) (hT : Tabs w) (hri : Tg.right u = true) (h8 : ¬ 8000 < r.length) (h0 : r ≠ []) (hht : Tg.http r = false) (h2 : ¬ r.take 2 = [47, 47]) (h47 : ¬ r.head? = some 47) (h63 : ¬ r.head? = some 63) (h58 : (r.take (Tg.ahead Tg.sq r)).contains 58 = true) :
    Calls Tryz.prog 91 #[uval u, .string (str r)] w fun e w' => e = .returned (ures (Tg.zero, 10)) ∧ Below w.heap.size w w' := by
  have cRi := fun (W : World) (hb : Below w.heap.size w W) => Right_u u W (by omega) (by omega) hk (hm.later hb) (hT.later hb)
  rw [uval_u] at cRi
  have cLo := fun w => long_one (str r) r w rfl
  have hU00 := Res.start w (.string (str u.host)) (.int .i64 u.port) (.string (str u.path))
  rw [hri] at cRi
  rw [decide_eq_false h8] at cLo
  have hok := Tg.ok_of hri
  have hok2 : Hid (Tg.Ok u) := hok
  obtain ⟨pt, hpt⟩ := hok.head
  have hps := str_size u.path
  have cQm := fun (W : World) => ahead_qm (str u.path) W (by omega)
  rw [str_list] at cQm
  have hNl := Tg.ahead_le Tg.qm u.path
  obtain ⟨N, hN⟩ : ∃ N, N = Tg.ahead Tg.qm u.path := ⟨_, rfl⟩
  rw [← hN] at cQm hNl
  have hNs : (N : Int) ≤ (str u.path).size := by omega
  have eP : (str u.path).extract 0 N = str (u.path.take N) := by
    refine str_same ?_
    rw [Lib.extract_data, str_list]; simp
  have HP0 := Lib.hid hpt
  have HPN := Lib.hid hN
  have HPL := Lib.hid hp
  have HM := Lib.hid hm
  have HT := Lib.hid hT
  have HHL := Lib.hid hh
  have b0 : (str r).toList.isEmpty = false := by
    rw [str_toList]
    cases r with
    | nil => exact absurd rfl h0
    | cons _ _ => rfl
  have cAb := fun W => absolute_s (str r) W (by rw [str_size]; omega)
  rw [str_list, hht] at cAb
  have cPt := fun (W : World) => pre_two (str r) r rfl W
  rw [decide_eq_false h2] at cPt
  obtain ⟨c, rt, rfl⟩ : ∃ c rt, r = c :: rt := by
    cases r with
    | nil => exact absurd rfl h0
    | cons c rt => exact ⟨c, rt, rfl⟩
  have h0s : 0 < (str (c :: rt)).size := by rw [str_size]; simp
  have hix : (str (c :: rt))[0]'h0s = c := rfl
  have b47 : ((((str (c :: rt))[0]'h0s).toNat : Int) == 47) = false := by
    rw [hix, beq_eq_false_iff_ne]
    intro e; apply h47
    have : c = 47 := UInt8.toNat_inj.1 (by have : (47 : UInt8).toNat = 47 := rfl; omega)
    rw [this]; rfl
  have b63 : ((((str (c :: rt))[0]'h0s).toNat : Int) == 63) = false := by
    rw [hix, beq_eq_false_iff_ne]
    intro e; apply h63
    have : c = 63 := UInt8.toNat_inj.1 (by have : (63 : UInt8).toNat = 63 := rfl; omega)
    rw [this]; rfl
  have cSq := fun (W : World) => ahead_sq (str (c :: rt)) W (by rw [str_size]; omega)
  rw [str_list] at cSq
  have hAl := Tg.ahead_le Tg.sq (c :: rt)
  have hrz := str_size (c :: rt)
  generalize Tg.ahead Tg.sq (c :: rt) = A at *
  have hAs : (A : Int) ≤ (str (c :: rt)).size := by omega
  have cCo := fun (W : World) => Tryz.strings_Contains_one ((str (c :: rt)).extract 0 A) 58 W
  have exA : ((str (c :: rt)).extract 0 A).data.toList = (c :: rt).take A := by rw [Lib.extract_data, str_list]; simp
  rw [exA, ← Lib.contains_iff_indexByte, h58] at cCo
  clear eP h2 h47 hix h0 h63 exA h58 hAl hrz
  rw [uval_u]
  clear hm hT hri hh hp hk hr h8 hok hpt hN hNl hps
  generalize str u.host = H at *
  generalize str u.path = P at *
  generalize u.port = K at *
  generalize str (c :: rt) = s at *
  go_enter Tryz.func91, Tryz.ntmps91
  go_upto_region 1 with fail
  have hU0 := hU00.alloc (.cells #[.string ⟨#[]⟩, .int .i64 0, .string ⟨#[]⟩] 46)
  have hR0 : Res w (w.heap.size + 1) ((w.alloc (.cells #[.string H, .int .i64 K, .string P] 46)).alloc (.cells #[.string ⟨#[]⟩, .int .i64 0, .string ⟨#[]⟩] 46)) (.string ⟨#[]⟩) (.int .i64 0) (.string ⟨#[]⟩) :=
    ⟨heap_alloc2_new w _ _, hU0.below, by omega⟩
  generalize (w.alloc (.cells #[.string H, .int .i64 K, .string P] 46)).alloc (.cells #[.string ⟨#[]⟩, .int .i64 0, .string ⟨#[]⟩] 46) = W0 at hU0 hR0 ⊢
  generalize w.heap.size + 1 = G at hR0 ⊢
  go_wp2_with (refine ldU hU0.cell rfl (.tmp 2) rfl rfl ?_)
  refine (cRi _ hU0.below).mono ?_
  rintro e W1 ⟨rfl, hb1⟩
  have hU1 := hU0.later hb1
  have hR1 := hR0.later hb1
  clear hU00 hU0 hR0 hb1 cRi
  go_wp2_with fail
  refine (cLo _).mono ?_
  rintro e W2 ⟨rfl, hb2⟩
  have hU2 := hU1.later hb2
  have hR2 := hR1.later hb2
  clear hU1 hR1 hb2 cLo
  go_upto_region 5 with fail
  have k2 := fun p : LateOf W2 => p.cell (box_cell hU2.cell).2.2
  have GQ := fun p : LateOf W2 => late p (cQm p.w)
  refine wp_region_late (by kernel_rfl) (by kernel_rfl) ?_
  quiet_step (fail)
  quiet_step (fail)
  quiet_step (fail)
  quiet_step (fail)
  quiet_step ((go_at_call 124; exact GQ _))
  quiet_step (fail)
  quiet_step (fail)
  refine wpQuiet_nil ?_
  rintro W3 ⟨p, rfl⟩
  have hU3 := hU2.later p.h
  have hR3 := hR2.later p.h
  generalize p.w = W3 at hU3 hR3 ⊢
  clear k2 GQ hU2 hR2 cQm
  go_wp2_with fail
  refine (cAb _).mono ?_
  rintro e W4 ⟨rfl, hb4⟩
  have hU4 := hU3.later hb4
  have hR4 := hR3.later hb4
  clear hU3 hR3 hb4 cAb
  go_wp2_with fail
  refine (cPt _).mono ?_
  rintro e W5 ⟨rfl, rfl⟩
  go_wp2_with fail
  refine (cSq _).mono ?_
  rintro e W7 ⟨rfl, hb7⟩
  have hU7 := hU4.later hb7
  have hR7 := hR4.later hb7
  go_wp2_with fail
  refine (cCo _).mono ?_
  rintro e W8 ⟨rfl, rfl⟩
  clear hU4 hR4 hb7 cSq cCo
  go_wp2_with (refine stU hR7 rfl (.tmp 4) (.tmp 71) rfl _ _ _ rfl rfl ?_; intro W9 hR9 _)
  (try simp only [Exit.inBlock, Exit.then])
  refine ret_uri rfl G _ _ _ rfl hR9.cell rfl ?_
  exact ⟨by rfl, hR9.below⟩
set_option maxHeartbeats 3200000 in
set_option maxRecDepth 100000 in
theorem res_other (u : Tg.U) (r : List UInt8) (w : World) (hh : u.host.length ≤ 90000) (hp : u.path.length ≤ 80000) (hk : u.port ≤ 9223372036854775807) (hr : r.length ≤ 90000) (hm : MaxOk w) (hT : Tabs w) (hri : Tg.right u = true) (h8 : ¬ 8000 < r.length) (h0 : r ≠ []) (hht : Tg.http r = false) (h2 : ¬ r.take 2 = [47, 47]) (h47 : ¬ r.head? = some 47) (h63 : ¬ r.head? = some 63) (h58 : (r.take (Tg.ahead Tg.sq r)).contains 58 = false) :
    Calls Tryz.prog 91 #[uval u, .string (str r)] w fun e w' => e = .returned (ures (Tg.atU u.host u.port (Tg.upto (u.path.take (Tg.ahead Tg.qm u.path)) ++ r))) ∧ Below w.heap.size w w' := by
  have cRi := fun (W : World) (hb : Below w.heap.size w W) => Right_u u W (by omega) (by omega) hk (hm.later hb) (hT.later hb)
  rw [uval_u] at cRi
  have cLo := fun w => long_one (str r) r w rfl
  have hU00 := Res.start w (.string (str u.host)) (.int .i64 u.port) (.string (str u.path))
  rw [hri] at cRi
  rw [decide_eq_false h8] at cLo
  have hok := Tg.ok_of hri
  have hok2 : Hid (Tg.Ok u) := hok
  obtain ⟨pt, hpt⟩ := hok.head
  have hps := str_size u.path
  have cQm := fun (W : World) => ahead_qm (str u.path) W (by omega)
  rw [str_list] at cQm
  have hNl := Tg.ahead_le Tg.qm u.path
  obtain ⟨N, hN⟩ : ∃ N, N = Tg.ahead Tg.qm u.path := ⟨_, rfl⟩
  rw [← hN] at cQm hNl
  have hNs : (N : Int) ≤ (str u.path).size := by omega
  have eP : (str u.path).extract 0 N = str (u.path.take N) := by
    refine str_same ?_
    rw [Lib.extract_data, str_list]; simp
  have HP0 := Lib.hid hpt
  have HPN := Lib.hid hN
  have HPL := Lib.hid hp
  have HM := Lib.hid hm
  have HT := Lib.hid hT
  have HHL := Lib.hid hh
  have b0 : (str r).toList.isEmpty = false := by
    rw [str_toList]
    cases r with
    | nil => exact absurd rfl h0
    | cons _ _ => rfl
  have cAb := fun W => absolute_s (str r) W (by rw [str_size]; omega)
  rw [str_list, hht] at cAb
  have cPt := fun (W : World) => pre_two (str r) r rfl W
  rw [decide_eq_false h2] at cPt
  obtain ⟨c, rt, rfl⟩ : ∃ c rt, r = c :: rt := by
    cases r with
    | nil => exact absurd rfl h0
    | cons c rt => exact ⟨c, rt, rfl⟩
  have h0s : 0 < (str (c :: rt)).size := by rw [str_size]; simp
  have hix : (str (c :: rt))[0]'h0s = c := rfl
  have hN1 : ∃ n, N = n + 1 := by
    rw [hpt] at hN
    rw [Tg.ahead, if_neg (by decide)] at hN
    exact ⟨_, hN⟩
  obtain ⟨n, hNn⟩ := hN1
  have htk : u.path.take N = 47 :: pt.take n := by rw [hpt, hNn]; rfl
  have b47 : ((((str (c :: rt))[0]'h0s).toNat : Int) == 47) = false := by
    rw [hix, beq_eq_false_iff_ne]
    intro e; apply h47
    have : c = 47 := UInt8.toNat_inj.1 (by have : (47 : UInt8).toNat = 47 := rfl; omega)
    rw [this]; rfl
  have b63 : ((((str (c :: rt))[0]'h0s).toNat : Int) == 63) = false := by
    rw [hix, beq_eq_false_iff_ne]
    intro e; apply h63
    have : c = 63 := UInt8.toNat_inj.1 (by have : (63 : UInt8).toNat = 63 := rfl; omega)
    rw [this]; rfl
  have cSq := fun (W : World) => ahead_sq (str (c :: rt)) W (by rw [str_size]; omega)
  rw [str_list] at cSq
  have hAl := Tg.ahead_le Tg.sq (c :: rt)
  have hrz := str_size (c :: rt)
  generalize Tg.ahead Tg.sq (c :: rt) = A at *
  have hAs : (A : Int) ≤ (str (c :: rt)).size := by omega
  have cCo := fun (W : World) => Tryz.strings_Contains_one ((str (c :: rt)).extract 0 A) 58 W
  have exA : ((str (c :: rt)).extract 0 A).data.toList = (c :: rt).take A := by rw [Lib.extract_data, str_list]; simp
  rw [exA, ← Lib.contains_iff_indexByte, h58] at cCo
  obtain ⟨m, hm1, hm2, hm3⟩ := last_upto (u.path.take N) (by rw [htk]; simp)
  rw [← eP] at hm1
  have hmz := str_size (u.path.take N)
  rw [← eP] at hmz
  have cLi := fun (W : World) => Tryz.strings_LastIndexByte ((str u.path).extract 0 N) 47 (by rw [hmz, List.length_take]; omega) W
  rw [hm1] at cLi
  have hms : (m : Int) + 1 ≤ ((str u.path).extract 0 N).size := by omega
  have hup : ∃ q, Tg.upto (u.path.take N) = 47 :: q ∧ q.length ≤ u.path.length := by
    rw [← hm3, htk, List.take_succ_cons]
    refine ⟨_, rfl, ?_⟩
    rw [List.length_take, List.length_take]
    have := congrArg List.length hpt
    simp at this; omega
  obtain ⟨q, hq, hql⟩ := hup
  have cAt := fun (W : World) (hb : Below w.heap.size w W) => at_s u (q ++ c :: rt) W (by omega) (by simp at hr h8 ⊢; omega) (hm.later hb) (hT.later hb)
  have es : ((str u.path).extract 0 N).extract 0 (m + 1) ++ str (c :: rt) = str (47 :: (q ++ c :: rt)) := by
    refine str_same ?_
    rw [app_data, Lib.extract_data, eP, str_list, str_list]
    simp only [List.drop_zero, Nat.sub_zero]
    rw [hm3, hq]; rfl
  rw [← es] at cAt
  rw [← hN, hq]
  have hzz : (str (c :: rt)).size ≤ 90000 := by rw [str_size]; exact hr
  have hzy : (((str u.path).extract 0 N).extract 0 (m + 1)).size ≤ 90000 := by simp; omega
  obtain ⟨⟨⟨ra, rb, rc⟩, rd⟩, hres⟩ : ∃ x, Tg.atU u.host u.port (47 :: (q ++ c :: rt)) = x := ⟨_, rfl⟩
  have e1 : ures (⟨ra, rb, rc⟩, rd) = .tuple #[.agg #[.string (str ra), .int .i64 rb, .string (str rc)], .int .i64 rd] := rfl
  rw [hres, e1] at cAt
  rw [List.cons_append, hres, e1]
  clear hres e1 eP h2 h47 hix h0 h63 htk es hNn exA h58 hAl hrz hm1 hm2 hm3 hmz hq hql
  rw [uval_u] at cAt ⊢
  clear hm hT hri hh hp hk hr h8 hok hpt hN hNl hps
  generalize str u.host = H at *
  generalize str u.path = P at *
  generalize u.port = K at *
  generalize str (c :: rt) = s at *
  go_enter Tryz.func91, Tryz.ntmps91
  go_upto_region 1 with fail
  have hU0 := hU00.alloc (.cells #[.string ⟨#[]⟩, .int .i64 0, .string ⟨#[]⟩] 46)
  have hR0 : Res w (w.heap.size + 1) ((w.alloc (.cells #[.string H, .int .i64 K, .string P] 46)).alloc (.cells #[.string ⟨#[]⟩, .int .i64 0, .string ⟨#[]⟩] 46)) (.string ⟨#[]⟩) (.int .i64 0) (.string ⟨#[]⟩) :=
    ⟨heap_alloc2_new w _ _, hU0.below, by omega⟩
  generalize (w.alloc (.cells #[.string H, .int .i64 K, .string P] 46)).alloc (.cells #[.string ⟨#[]⟩, .int .i64 0, .string ⟨#[]⟩] 46) = W0 at hU0 hR0 ⊢
  generalize w.heap.size + 1 = G at hR0 ⊢
  go_wp2_with (refine ldU hU0.cell rfl (.tmp 2) rfl rfl ?_)
  refine (cRi _ hU0.below).mono ?_
  rintro e W1 ⟨rfl, hb1⟩
  have hU1 := hU0.later hb1
  have hR1 := hR0.later hb1
  clear hU00 hU0 hR0 hb1 cRi
  go_wp2_with fail
  refine (cLo _).mono ?_
  rintro e W2 ⟨rfl, hb2⟩
  have hU2 := hU1.later hb2
  have hR2 := hR1.later hb2
  clear hU1 hR1 hb2 cLo
  go_upto_region 5 with fail
  have k2 := fun p : LateOf W2 => p.cell (box_cell hU2.cell).2.2
  have GQ := fun p : LateOf W2 => late p (cQm p.w)
  refine wp_region_late (by kernel_rfl) (by kernel_rfl) ?_
  quiet_step (fail)
  quiet_step (fail)
  quiet_step (fail)
  quiet_step (fail)
  quiet_step ((go_at_call 124; exact GQ _))
  quiet_step (fail)
  quiet_step (fail)
  refine wpQuiet_nil ?_
  rintro W3 ⟨p, rfl⟩
  have hU3 := hU2.later p.h
  have hR3 := hR2.later p.h
  generalize p.w = W3 at hU3 hR3 ⊢
  clear k2 GQ hU2 hR2 cQm
  generalize P.extract 0 N = PP at *
  go_wp2_with fail
  refine (cAb _).mono ?_
  rintro e W4 ⟨rfl, hb4⟩
  have hU4 := hU3.later hb4
  have hR4 := hR3.later hb4
  clear hU3 hR3 hb4 cAb
  go_wp2_with fail
  refine (cPt _).mono ?_
  rintro e W5 ⟨rfl, rfl⟩
  go_wp2_with fail
  refine (cSq _).mono ?_
  rintro e W7 ⟨rfl, hb7⟩
  have hU7 := hU4.later hb7
  have hR7 := hR4.later hb7
  go_wp2_with fail
  refine (cCo _).mono ?_
  rintro e W8 ⟨rfl, rfl⟩
  clear hU4 hR4 hb7 cSq cCo
  go_upto_region 18 with fail
  have hc := box_cell hU7.cell
  have k0 := fun p : LateOf W8 => p.cell hc.1
  have k1 := fun p : LateOf W8 => p.cell hc.2.1
  have k2 := fun p : LateOf W8 => p.cell hc.2.2
  have GL := fun p : LateOf W8 => late p ((cLi p.w).mono fun e w' ⟨h1, h2⟩ => ⟨h1, h2 ▸ Below.refl _ _⟩)
  have GA := fun p : LateOf W8 => late p (cAt p.w (hU7.below.trans (p.h.mono hU7.below.size)))
  have HGR := Lib.hid (fun p : LateOf W8 => hR7.later p.h)
  have hz3 : ¬ 9223372036854775807 < (PP.extract 0 (m + 1)).size + s.size := by omega
  have hz4 : ¬ 9223372036854775807 < min (m + 1) PP.size + s.size := by simp at hzy; omega
  have hz5 : min (m + 1) PP.size + s.size ≤ 9223372036854775807 := by omega
  have hmw : IntKind.i64.wrap ((m : Int) + 1) = (m : Int) + 1 := by rw [IntKind.wrap_i64]; omega
  have hm0 : (0 : Int) ≤ (m : Int) + 1 := by omega
  clear cLi cAt hU7 hR7 hc
  refine wp_region_late_tail 11 (by kernel_rfl) (by kernel_rfl) ?_
  simp only [List.take_succ_cons, List.take_zero, List.drop_succ_cons, List.drop_zero]
  quiet_step (fail)
  quiet_step (fail)
  quiet_step (fail)
  quiet_step ((go_at_call 130; exact GL _))
  quiet_step (fail)
  quiet_step (fail)
  quiet_step (fail)
  quiet_step (fail)
  quiet_step ((go_at_call 125; exact GA _))
  quiet_step (fail)
  quiet_step (fail)
  refine wpQuiet_nil ?_
  intro w2 hw'
  obtain ⟨p, rfl⟩ := hw'
  have hRp := HGR.out p
  go_wp2_with (refine stU hRp rfl (.tmp 4) (.tmp 81) rfl _ _ _ rfl rfl ?_; intro W9 hR9 _)
  (try simp only [Exit.inBlock, Exit.then])
  refine ret_uri rfl G _ _ _ rfl hR9.cell rfl ?_
  exact ⟨by rfl, hR9.below⟩
theorem Resolve_s (u : Tg.U) (r : List UInt8) (w : World) (hh : u.host.length ≤ 90000) (hp : u.path.length ≤ 80000) (hk : u.port ≤ 9223372036854775807) (hr : r.length ≤ 90000) (hm : MaxOk w) (hT : Tabs w) :
    Calls Tryz.prog 91 #[uval u, .string (str r)] w fun e w' => e = .returned (ures (Tg.resolve u r)) ∧ Below w.heap.size w w' := by
  unfold Tg.resolve
  cases hri : Tg.right u with
  | false => rw [if_pos rfl]; exact res_arg u r w hh hp hk hr hm hT hri
  | true =>
    rw [if_neg (by decide)]
    by_cases h8 : 8000 < r.length
    · rw [if_pos h8]; exact res_long u r w hh hp hk hr hm hT hri h8
    rw [if_neg h8]
    by_cases h0 : r = []
    · rw [if_pos h0]; exact res_empty u r w hh hp hk hr hm hT hri h8 h0
    rw [if_neg h0]
    cases hht : Tg.http r with
    | true => rw [if_pos rfl]; exact res_http u r w hh hp hk hr hm hT hri h8 h0 hht
    | false =>
      rw [if_neg (by decide)]
      by_cases h2 : r.take 2 = [47, 47]
      · rw [if_pos h2]; exact res_two u r w hh hp hk hr hm hT hri h8 h0 hht h2
      rw [if_neg h2]
      by_cases h47 : r.head? = some 47
      · rw [if_pos h47]; exact res_slash u r w hh hp hk hr hm hT hri h8 h0 hht h2 h47
      rw [if_neg h47]
      by_cases h63 : r.head? = some 63
      · rw [if_pos h63]; exact res_query u r w hh hp hk hr hm hT hri h8 h0 hht h2 h47 h63
      rw [if_neg h63]
      cases h58 : (r.take (Tg.ahead Tg.sq r)).contains 58 with
      | true => rw [if_pos rfl]; exact res_colon u r w hh hp hk hr hm hT hri h8 h0 hht h2 h47 h63 h58
      | false => rw [if_neg (by decide)]; exact res_other u r w hh hp hk hr hm hT hri h8 h0 hht h2 h47 h63 h58
end Go.Proofs.YtoanelobggledaaGreatDoor

namespace Go.Proofs.YtoanelobggledaaGreatDoor
open Go.RowKit

end Go.Proofs.YtoanelobggledaaGreatDoor

