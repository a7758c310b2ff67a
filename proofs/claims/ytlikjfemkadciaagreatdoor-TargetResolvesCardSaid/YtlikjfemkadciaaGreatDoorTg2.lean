/- Package target: what stands ahead of the first of some octets: strings.IndexAny at any octets. -/
import Derived.Test.YtlikjfemkadciaaGreatDoorTg1
import Derived.Lib.SpaceUEq
import Derived.Lib.MapLaws
import Derived.Deep.LoopGhost
namespace Go.Proofs.YtlikjfemkadciaaGreatDoor
open Go.RowKit

theorem ahead_index (p : UInt8 → Bool) (chars : List UInt8) (h : ∀ c, chars.contains c = p c) : ∀ l : List UInt8, (Lib.indexAny l chars = -1 ∧ Tg.ahead p l = l.length) ∨ (0 ≤ Lib.indexAny l chars ∧ Lib.indexAny l chars = Tg.ahead p l)
  | [] => .inl ⟨rfl, rfl⟩
  | b :: t => by
    unfold Lib.indexAny Tg.ahead
    rw [h b]
    by_cases hb : p b = true
    · rw [if_pos hb, if_pos hb]; exact .inr ⟨by decide, rfl⟩
    · rw [if_neg hb, if_neg hb]
      rcases ahead_index p chars h t with ⟨h1, h2⟩ | ⟨h1, h2⟩
      · rw [h1, h2, if_pos (by decide)]; exact .inl ⟨rfl, by simp⟩
      · rw [if_neg (by intro e; have := beq_iff_eq.1 e; omega)]; exact .inr ⟨by omega, by omega⟩

theorem enc_cases2 (r : Int) (hv : Utf8.valid r = true) (h128 : 128 ≤ r) :
    (∃ a c : UInt8, Utf8.encode r = ⟨#[a, c]⟩ ∧ 128 ≤ c.toNat) ∨ (∃ a b c : UInt8, Utf8.encode r = ⟨#[a, b, c]⟩ ∧ 128 ≤ c.toNat) ∨ (∃ a b d c : UInt8, Utf8.encode r = ⟨#[a, b, d, c]⟩ ∧ 128 ≤ c.toNat) := by
  have hc : ¬ r.toNat < 128 := by omega
  unfold Utf8.encode
  simp only [hv, if_true, hc, if_false]
  split
  · exact .inl ⟨_, _, rfl, by simp; omega⟩
  · split
    · exact .inr (.inl ⟨_, _, _, rfl, by simp; omega⟩)
    · exact .inr (.inr ⟨_, _, _, _, rfl, by simp; omega⟩)

set_option maxHeartbeats 1600000 in
set_option maxRecDepth 1000000 in
theorem rune_bad (x : Nat) (w : World) (h1 : 55296 ≤ x) (h2 : x ≤ 57343) :
    Calls Tryz.prog 51 #[.string ⟨#[47, 63]⟩, .int .i32 x] w fun e w' => e = .returned (.int .i64 (-1)) ∧ Below w.heap.size w w' := by
  have hv : Lib.validRune (x : Int) = false := by unfold Lib.validRune; rw [decide_eq_false]; omega
  have hne : ((x : Int) == 65533) = false := beq_eq_false_iff_ne.2 (by omega)
  have hV := Tryz.utf8_ValidRune x
  rw [hv] at hV
  clear hv
  go_enter Tryz.func51, Tryz.ntmps51
  go_wp2_with fail
  refine (hV _).mono ?_
  rintro e w' ⟨rfl, rfl⟩
  go_wp2_with fail
  go_ret
  exact ⟨rfl, Below.refl _ _⟩

set_option maxHeartbeats 1600000 in
set_option maxRecDepth 1000000 in
theorem rune_err (w : World) :
    Calls Tryz.prog 51 #[.string ⟨#[47, 63]⟩, .int .i32 65533] w fun e w' => e = .returned (.int .i64 (-1)) ∧ Below w.heap.size w w' := by
  go_enter Tryz.func51, Tryz.ntmps51
  go_wp2_with fail
  go_loopg [] 3 (fun gf wx => ∃ pos : Nat, pos + gf = 3 ∧ pos ≤ 2 ∧ wx = w.iter ⟨#[47, 63]⟩ pos)
  case atStart => exact ⟨0, by omega, by omega, rfl⟩
  case round =>
    obtain ⟨pos, hg, hp, rfl⟩ := hrel
    have : pos = 0 ∨ pos = 1 ∨ pos = 2 := by omega
    rcases this with rfl | rfl | rfl
    · obtain rfl : gk = 3 := by omega
      have hnx := fun ty => run_next_ascii (P := Tryz.prog) w ⟨#[47, 63]⟩ 0 ty (by decide) (by decide)
      go_wp2_with fail
      go_roundg 2
      case measure => omega
      case rel => exact ⟨1, by omega, by omega, rfl⟩
    · obtain rfl : gk = 2 := by omega
      have hnx := fun ty => run_next_ascii (P := Tryz.prog) w ⟨#[47, 63]⟩ 1 ty (by decide) (by decide)
      go_wp2_with fail
      go_roundg 1
      case measure => omega
      case rel => exact ⟨2, by omega, by omega, rfl⟩
    · have hnx := fun ty => run_next_end (P := Tryz.prog) w ⟨#[47, 63]⟩ 2 ty (by decide)
      go_wp2_with fail
      go_ret
      exact ⟨rfl, (Below.refl _ _).alloc (Nat.le_refl _) _⟩

theorem ix_tail2 (c : UInt8) (w : World) (s : ByteArray) (hs : s.data.toList = []) :
    Calls Tryz.prog 37 #[.string s, .int .u8 c.toNat] w fun e w' => e = .returned (.int .i64 (-1)) ∧ w = w' := by
  refine (Tryz.strings_IndexByte s c.toNat w).mono ?_
  rintro e w' ⟨rfl, rfl⟩
  rw [hs]
  exact ⟨rfl, rfl⟩

set_option maxHeartbeats 1600000 in
set_option maxRecDepth 1000000 in
theorem rune_far (x : Nat) (w : World) (h1 : 128 ≤ x) (h2 : x < 55296 ∨ (57343 < x ∧ x ≤ 1114111)) (h3 : x ≠ 65533) :
    Calls Tryz.prog 51 #[.string ⟨#[47, 63]⟩, .int .i32 x] w fun e w' => e = .returned (.int .i64 (-1)) ∧ Below w.heap.size w w' := by
  have hv : Lib.validRune (x : Int) = true := by unfold Lib.validRune; rw [decide_eq_true]; omega
  have hne : ((x : Int) == 65533) = false := beq_eq_false_iff_ne.2 (by omega)
  have hV := Tryz.utf8_ValidRune x
  rw [hv] at hV
  clear hv
  have h4 : ¬ (x : Int) < 128 := by omega
  have hE := enc_cases2 x (by unfold Utf8.valid; simp; omega) (by omega)
  rcases hE with ⟨a, c, hE, hc⟩ | ⟨a, b, c, hE, hc⟩ | ⟨a, b, d, c, hE, hc⟩
  · have g3 : ((((⟨#[47, 63]⟩ : ByteArray)[1]'(by decide)).toNat : Int) != (((⟨#[a, c]⟩ : ByteArray)[1]'(by show 1 < 2; omega)).toNat : Int)) = true := by
      show ((63 : Int) != (c.toNat : Int)) = true
      rw [bne, beq_eq_false_iff_ne.2 (by omega : (63 : Int) ≠ c.toNat)]; rfl
    go_enter Tryz.func51, Tryz.ntmps51
    go_wp2_with fail
    refine (hV _).mono ?_
    rintro e w' ⟨rfl, rfl⟩
    go_wp2_with fail
    go_step3
    go_wp2_with fail
    refine wp_loop_rounds 1 ?_
    rw [rounds_succ]
    go_wp2_with fail
    go_step3
    go_wp2_with fail
    go_quiet (fail)
    have hbq := Go.below_drewN (Below.refl w'.heap.size w') nq
    generalize w'.drewN nq = w2 at hbq ⊢
    go_wp2_with fail
    have hw2 : IntKind.i64.wrap 2 = 2 := by decide
    go_quiet ((go_at_call 37; exact quiet _ (ix_tail2 c _ ByteArray.empty (by simp))))
    go_wp2_with fail
    rw [Exit.noGoto_ret]
    go_wp2_with fail
    rw [Exit.noGoto_ret]
    go_wp2_with fail
    go_ret
    exact ⟨rfl, Go.below_drewN hbq _⟩
  · go_enter Tryz.func51, Tryz.ntmps51
    go_wp2_with fail
    refine (hV _).mono ?_
    rintro e w' ⟨rfl, rfl⟩
    go_wp2_with fail
    go_step3
    go_wp2_with fail
    refine wp_loop_rounds 1 ?_
    rw [rounds_succ]
    go_wp2_with fail
    rw [Exit.noGoto_ret]
    go_wp2_with fail
    go_ret
    exact ⟨rfl, Below.refl _ _⟩
  · go_enter Tryz.func51, Tryz.ntmps51
    go_wp2_with fail
    refine (hV _).mono ?_
    rintro e w' ⟨rfl, rfl⟩
    go_wp2_with fail
    go_step3
    go_wp2_with fail
    refine wp_loop_rounds 1 ?_
    rw [rounds_succ]
    go_wp2_with fail
    rw [Exit.noGoto_ret]
    go_wp2_with fail
    go_ret
    exact ⟨rfl, Below.refl _ _⟩
theorem rune_not (x : Nat) (w : World) (h1 : 128 ≤ x) (h2 : x ≤ 1114111) :
    Calls Tryz.prog 51 #[.string ⟨#[47, 63]⟩, .int .i32 x] w fun e w' => e = .returned (.int .i64 (-1)) ∧ Below w.heap.size w w' := by
  by_cases h3 : x = 65533
  · subst h3; exact rune_err w
  · by_cases h4 : 55296 ≤ x ∧ x ≤ 57343
    · exact rune_bad x w h4.1 h4.2
    · exact rune_far x w h1 (by omega) h3

/-- A rune that isn't ASCII: its octets are none that is. -/
theorem decode_far (s : ByteArray) (i : Nat) (hi : i < s.size) (h : 128 ≤ (s[i]'hi).toNat) : 128 ≤ (Utf8.decode s i).1 ∧ (Utf8.decode s i).1 ≤ 1114111 ∧ 1 ≤ (Utf8.decode s i).2 ∧ i + (Utf8.decode s i).2 ≤ s.size ∧ ∀ j (hj : j < s.size), i ≤ j → j < i + (Utf8.decode s i).2 → 128 ≤ (s[j]'hj).toNat := by
  have hg : ∀ j (hj : j < s.size), (s.get! j) = s[j]'hj := fun j hj => by
    have : s.get! j = s.data[j]! := rfl
    rw [this, getElem!_pos s.data j (by simpa using hj)]; rfl
  have h0 : 128 ≤ (s.get! i).toNat := by rw [hg i hi]; exact h
  have hc := Lib.decodeN_conts (s.size - i) (s.get! i).toNat (s.get! (i + 1)).toNat (s.get! (i + 2)).toNat (s.get! (i + 3)).toNat
  have hs := Lib.decodeN_shape (s.size - i) (s.get! i).toNat (s.get! (i + 1)).toNat (s.get! (i + 2)).toNat (s.get! (i + 3)).toNat
  have hr := Lib.decodeN_rune_le (s.size - i) (s.get! i).toNat (s.get! (i + 1)).toNat (s.get! (i + 2)).toNat (s.get! (i + 3)).toNat (UInt8.toNat_lt _)
  have hw := Lib.decodeN_ge1 (s.size - i) (s.get! i).toNat (s.get! (i + 1)).toNat (s.get! (i + 2)).toNat (s.get! (i + 3)).toNat
  rw [← Lib.decode_at] at hc hs hr hw
  refine ⟨?_, hr, hw, by omega, ?_⟩
  · rcases hs with ⟨h1, _⟩ | ⟨_, _, _, h1, e⟩ | ⟨_, _, _, _, h1, _, e⟩ | ⟨_, _, _, _, _, h1, _, e⟩ | e
    · omega
    · rw [e]; exact h1
    · rw [e]; show 128 ≤ _; omega
    · rw [e]; show 128 ≤ _; omega
    · rw [e]; decide
  · intro j hj h1 h2
    rw [← hg j hj]
    have : j = i ∨ j = i + 1 ∨ j = i + 2 ∨ j = i + 3 := by omega
    rcases this with rfl | rfl | rfl | rfl
    · exact h0
    · have := hc.1 (by omega); omega
    · have := hc.2.1 (by omega); omega
    · have := hc.2.2.1 (by omega); omega
theorem noAny_skip {s : ByteArray} {i k : Nat} (h : Lib.NoAny s.data.toList [47, 63] i) (hb : ∀ j (hj : j < s.size), i ≤ j → j < i + k → 128 ≤ (s[j]'hj).toNat) : Lib.NoAny s.data.toList [47, 63] (i + k) := by
  intro j b hj hjb
  by_cases hlt : j < i
  · exact h j b hlt hjb
  · have hjs : j < s.size := by
      have := (List.getElem?_eq_some_iff.1 hjb).1
      rw [Lib.size_eq]; exact this
    have h1 := hb j hjs (by omega) hj
    have e : s[j]'hjs = b := by
      have := Lib.data_getElem? s j hjs
      rw [hjb] at this; exact (Option.some.inj this).symm
    rw [e] at h1
    have h2 : b ≠ 47 := by rintro rfl; revert h1; decide
    have h3 : b ≠ 63 := by rintro rfl; revert h1; decide
    simp [h2, h3]

set_option maxHeartbeats 4000000 in
set_option maxRecDepth 1000000 in
theorem any_short (s : ByteArray) (w : World) (h8 : s.size ≤ 8) :
    Calls Tryz.prog 36 #[.string s, .string ⟨#[47, 63]⟩] w fun e w' => e = .returned (.int .i64 (Lib.indexAny s.data.toList [47, 63])) ∧ Below w.heap.size w w' := by
  have cU : ∀ w, Calls Tryz.prog 52 #[.int .i64 s.size] w fun e w' => e = .returned (.bool false) ∧ w' = w := by
    intro w
    go_enter Tryz.func52, Tryz.ntmps52
    have hz : ¬ ((8 : Int) < (s.size : Int)) := by omega
    go_wp2_with fail
    go_ret
    exact ⟨rfl, rfl⟩
  go_enter Tryz.func36, Tryz.ntmps36
  go_wp2_with fail
  refine (cU _).mono ?_
  rintro e w' ⟨rfl, rfl⟩
  go_wp2_with fail
  clear cU
  go_loopg [9, 10] s.size (fun g _ _ wx => ∃ i : Nat, s.size ≤ i + g ∧ i ≤ s.size ∧ Hid (Lib.NoAny s.data.toList [47, 63] i) ∧ wx.heap[w'.heap.size]? = some (.stringIter s i) ∧ Below w'.heap.size w' wx)
  case atStart => exact ⟨0, by omega, by omega, Lib.hid (Lib.NoAny.zero _ _), World.iter_heap w' s 0, (Below.refl _ _).alloc (Nat.le_refl _) _⟩
  case round =>
    obtain ⟨i, hig, his, HN, hit, hb⟩ := hrel
    by_cases hlt : i < s.size
    · obtain ⟨g, rfl⟩ : ∃ g, gk = g + 1 := ⟨gk - 1, by omega⟩
      have hitw : w'.heap.size < wr.heap.size := (Array.getElem?_eq_some_iff.1 hit).1
      by_cases ha : (s[i]'hlt).toNat < 128
      · have hnx : ∀ ty, (Instr.next (.pointer (some ⟨w'.heap.size, 0, none⟩)) true ty).run Tryz.prog wr = _ := fun ty => Lib.run_next_ascii_at wr w'.heap.size s i ty hit hlt ha
        have hit2 := Lib.iterAt_heap wr w'.heap.size s i (i + 1) hit
        have hb2 := Lib.below_iterAt hb (k := w'.heap.size) (Nat.le_refl _) s (i + 1)
        obtain ⟨W, hWd⟩ : ∃ W, wr.iterAt w'.heap.size s (i + 1) = W := ⟨_, rfl⟩
        rw [hWd] at hnx hit2 hb2
        obtain ⟨x, hx⟩ : ∃ x : UInt8, s[i]'hlt = x := ⟨_, rfl⟩
        have hxl : s.data.toList[i]? = some x := by rw [← hx]; exact Lib.data_getElem? s i hlt
        rw [hx] at hnx ha
        have Hx := Lib.hid hxl
        clear hxl hx hWd
        have hcon := Lib.contains_iff_indexByte [47, 63] x
        have hI := fun w => Tryz.strings_IndexRune_ascii ⟨#[47, 63]⟩ (x.toNat : Int) w (by omega) (by omega)
        rw [byte_back] at hI
        have hI2 : ∀ w, Calls Tryz.prog 51 #[.string ⟨#[47, 63]⟩, .int .i32 x.toNat] w fun e w' => e = .returned (.int .i64 (Lib.indexByte [47, 63] x)) ∧ w' = w := hI
        clear hI
        cases hin : [47, 63].contains x with
        | false =>
          have HN2 := Lib.hid (HN.out.succ Hx.out hin)
          rw [hin] at hcon
          have hX : ¬ ((0 : Int) ≤ Lib.indexByte [47, 63] x) := of_decide_eq_false hcon.symm
          generalize Lib.indexByte [47, 63] x = X at *
          clear hcon hin
          go_wp2_with fail
          refine (hI2 _).mono ?_
          rintro e w1 ⟨rfl, rfl⟩
          go_wp2_with fail
          go_roundg g
          case measure => omega
          case rel => exact ⟨i + 1, by omega, by omega, HN2, hit2, hb2⟩
        | true =>
          have HR : Hid (Lib.indexAny s.data.toList [47, 63] = i) := Lib.indexAny_hit HN.out Hx.out hin
          rw [hin] at hcon
          have hX : ((0 : Int) ≤ Lib.indexByte [47, 63] x) := of_decide_eq_true hcon.symm
          generalize Lib.indexByte [47, 63] x = X at *
          clear hcon hin
          go_wp2_with fail
          refine (hI2 _).mono ?_
          rintro e w1 ⟨rfl, rfl⟩
          go_wp2_with fail
          go_ret
          exact ⟨ret_int HR.out.symm, hb2⟩
      · have hf := decode_far s i hlt (by omega)
        have hnx : ∀ ty, (Instr.next (.pointer (some ⟨w'.heap.size, 0, none⟩)) true ty).run Tryz.prog wr = _ := fun ty => Lib.run_next_any_at wr w'.heap.size s i ty hit hlt
        obtain ⟨f1, f2, f3, f4, f5⟩ := hf
        have HN2 := Lib.hid (noAny_skip HN.out f5)
        have hI := fun w => rune_not (Utf8.decode s i).1 w f1 f2
        generalize (Utf8.decode s i).1 = R at *
        generalize (Utf8.decode s i).2 = K at *
        have hit2 := Lib.iterAt_heap wr w'.heap.size s i (i + K) hit
        have hb2 := Lib.below_iterAt hb (k := w'.heap.size) (Nat.le_refl _) s (i + K)
        obtain ⟨W, hWd⟩ : ∃ W, wr.iterAt w'.heap.size s (i + K) = W := ⟨_, rfl⟩
        rw [hWd] at hnx hit2 hb2
        clear f1 f2 f5 hWd
        have hITW : w'.heap.size < W.heap.size := (Array.getElem?_eq_some_iff.1 hit2).1
        go_wp2_with fail
        refine (hI _).mono ?_
        rintro e w1 ⟨rfl, hbc⟩
        go_wp2_with fail
        go_roundg g
        case measure => omega
        case rel => exact ⟨i + K, by omega, f4, HN2, (hbc.block _ hITW).trans hit2, hb2.trans (hbc.mono hb2.size)⟩
    · obtain rfl : i = s.size := by omega
      have HR : Hid (Lib.indexAny s.data.toList [47, 63] = -1) := Lib.indexAny_none (by rw [← Lib.size_eq]; exact HN.out)
      have hnx : ∀ ty, (Instr.next (.pointer (some ⟨w'.heap.size, 0, none⟩)) true ty).run Tryz.prog wr = _ := fun ty => Lib.run_next_end_at wr w'.heap.size s s.size ty hit hlt
      go_wp2_with fail
      go_ret
      exact ⟨ret_int HR.out.symm, hb⟩
end Go.Proofs.YtlikjfemkadciaaGreatDoor
