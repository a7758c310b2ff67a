/- The document's own answer for package chunk: a line, from a place on. -/
import Derived.Test.YtgnopcghobaoiaaDoorCk1
namespace Go.Proofs.YtgnopcghobaoiaaDoor
open Go.RowKit

/-- What the document's line answers, from place A on. -/
def lres (A : Nat) (x : List UInt8 × Int × Int) : Value := .tuple #[.string (str x.1), .int .i64 (if x.2.2 = 0 then (A : Int) + x.2.1 else 0), .int .i64 x.2.2]
theorem list_upto (l : List UInt8) : (∀ k (hk : k < l.length), k < St.upto 10 l → l[k] ≠ 10) ∧ (∀ hk : St.upto 10 l < l.length, l[St.upto 10 l] = 10) := by
  constructor
  · intro k hk h
    refine St.upto_take 10 l l[k] ?_
    refine List.mem_of_getElem? (i := k) ?_
    rw [List.getElem?_take_of_lt h, List.getElem?_eq_getElem hk]
  · intro hk
    have h := St.upto_drop 10 l hk
    have h2 : (l.drop (St.upto 10 l))[0]? = some 10 := by rw [h]; rfl
    rw [List.getElem?_drop, Nat.add_zero, List.getElem?_eq_getElem hk] at h2
    exact Option.some.inj h2
/-- From place A on: where the first LF stands. -/
theorem drop_upto (l : List UInt8) (A : Nat) : (∀ m (hm : m < l.length), A ≤ m → m < A + St.upto 10 (l.drop A) → l[m] ≠ 10) ∧ (∀ m (hm : m < l.length), m = A + St.upto 10 (l.drop A) → l[m] = 10) := by
  obtain ⟨h1, h2⟩ := list_upto (l.drop A)
  constructor
  · intro m hm hA hu
    have := h1 (m - A) (by rw [List.length_drop]; omega) (by omega)
    rw [List.getElem_drop] at this
    simpa [show A + (m - A) = m by omega] using this
  · intro m hm he
    subst he
    have := h2 (by rw [List.length_drop]; omega)
    rwa [List.getElem_drop] at this

set_option maxHeartbeats 3200000 in
set_option maxRecDepth 100000 in
theorem rline_w (v : Value) (l : List UInt8) (A : Nat) (w : World) (hl : l.length ≤ 100000000) (hA : A ≤ l.length) (h : BIn w v l) :
    Calls Tryd.prog 15 #[v, .int .i64 A] w fun e w' => e = .returned (lres A (Ck.lineAt (l.drop A))) ∧ w = w' := by
  obtain ⟨ao, cap, rfl, hlc, hc9, hg⟩ := h
  have hA0 : (0 : Int) ≤ A := by omega
  obtain ⟨U, hU⟩ : ∃ U, U = St.upto 10 (l.drop A) := ⟨_, rfl⟩
  have hdl : (l.drop A).length = l.length - A := List.length_drop
  have hUl : A + U ≤ l.length := by have := St.upto_le 10 (l.drop A); omega
  have HV : Hid (Ck.lineAt (l.drop A) = if U < l.length - A ∧ U ≤ 255 then if 1 ≤ U ∧ l[A + (U - 1)]? = some 13 then ((l.take (A + (U - 1))).drop A, ((U + 1 : Nat) : Int), 0) else ([], 0, 10) else if l.length - A ≤ 255 then ([], 0, 11) else ([], 0, 12)) := by
    rw [hU, ← hdl, ← List.getElem?_drop, List.drop_take, Nat.add_sub_cancel_left]; exact Lib.hid rfl
  rcases hg with rfl | ⟨b, o, rfl, hb, hcell⟩
  · have hA9 : A = 0 := by simp at hA; exact hA
    subst hA9
    have HW : Hid (Ck.lineAt (([] : List UInt8).drop 0) = ([], 0, 11)) := by rw [HV.out, if_neg (by simp), if_pos (by simp)]; exact Lib.hid rfl
    clear HV hU hUl
    go_enter Tryd.func15, Tryd.ntmps15
    go_wp2_with fail
    refine wp_loop_rounds 1 ?_
    rw [rounds_succ]
    go_wp2_with fail
    go_ret3
    exact ⟨by rw [HW.out]; rfl, rfl⟩
  · obtain ⟨u1, u2⟩ := drop_upto l A
    have F1 : Hid (∀ m (hm : m < l.length), A ≤ m → m < A + U → l[m] ≠ 10) := by rw [hU]; exact Lib.hid u1
    have F2 : Hid (∀ m (hm : m < l.length), m = A + U → l[m] = 10) := by rw [hU]; exact Lib.hid u2
    have HT := Lib.hid (fun m (hm : m ≤ l.length) (hm2 : A ≤ m) => (by
      have hlen : ((l.take m).drop A).length = m - A := by rw [List.length_drop, List.length_take]; omega
      have hcv := run_convert_bytes_back (P := Tryd.prog) w 22 9 5 ⟨b, o + A, none⟩ (cap - A) ((l.take m).drop A) Tryd.underlying22 Tryd.underlying5 Tryd.underlying9 (fun j hj => by
        rw [hlen] at hj
        rw [Addr.add_lit, Nat.add_assoc, hcell (A + j) (by omega)]
        simp)
      rw [hlen] at hcv
      exact hcv : (convert 22 9 (.slice (some ⟨b, o + A, none⟩) (m - A) (cap - A))).run Tryd.prog w = .ok (.string (str ((l.take m).drop A))) w))
    obtain ⟨L, hL⟩ : ∃ L, L = l.length := ⟨_, rfl⟩
    have HC : Hid (∀ j (hj : j < l.length), w.cell? ⟨b, o + j, none⟩ = some (.int .u8 (l[j].toNat : Int))) := Lib.hid hcell
    have HL := Lib.hid hL
    rw [← hL] at hl hlc hUl hA
    rw [show l.length = L from hL.symm] at HV
    rw [show l.length = L from hL.symm]
    clear hU u1 u2 hcell hL hdl
    have hAi : (A : Int) ≤ L := by omega
    go_enter Tryd.func15, Tryd.ntmps15
    go_wp2_with fail
    go_loop [7] (fun i => ∃ m : Nat, A ≤ m ∧ m ≤ A + U ∧ m ≤ A + 256 ∧ i = .int .i64 m) (fun i => A + 256 - (intOf i).toNat)
    case atStart => exact ⟨A, by omega, by omega, by omega, rfl⟩
    case round =>
      obtain ⟨k, hkA, hkU, hkm, rfl⟩ := hrel
      have hk0 : (0 : Int) ≤ k := by omega
      by_cases hin : k < L ∧ k < A + 256
      · obtain ⟨hkL, hkM⟩ := hin
        have hki : (k : Int) < L := by omega
        have hkmi : (k : Int) < (A : Int) + 256 := by omega
        have hkl : k < l.length := by rw [← HL.out]; exact hkL
        have hck := HC.out k hkl
        by_cases hlt : k < A + U
        · obtain ⟨b1, b2, b3⟩ := ne_oct l[k] 10 10 rfl (F1.out k hkl hkA hlt)
          go_wp2_with fail
          go_round
          case rel => exact ⟨k + 1, by omega, by omega, by omega, by go_num⟩
          case measure => simp [intOf]; omega
        · have hkU2 : k = A + U := by omega
          have i10 : (l[k].toNat : Int) = 10 := by rw [F2.out k hkl hkU2]; rfl
          rw [i10] at hck
          by_cases hk1 : k = A
          · have hU0 : U = 0 := by omega
            have HW : Hid (Ck.lineAt (l.drop A) = ([], 0, 10)) := by rw [HV.out, if_pos ⟨by omega, by omega⟩, if_neg (by omega)]; exact Lib.hid rfl
            have hkai : (k : Int) = A := by omega
            have hkab : ((k : Int) == (A : Int)) = true := beq_iff_eq.2 hkai
            clear HV F1 F2 HT HC i10 hkU2 hU0
            clear hkai
            subst hk1
            go_wp2_with fail
            go_ret3
            exact ⟨by rw [HW.out]; rfl, rfl⟩
          · obtain ⟨j, hj⟩ : ∃ j, k = j + 1 := ⟨k - 1, by omega⟩
            have hjl : j < l.length := by omega
            have hcj := HC.out j hjl
            have hb0 : ((k : Int) == (A : Int)) = false := beq_eq_false_iff_ne.2 (by omega)
            have hw1 : IntKind.i64.wrap ((k : Int) - 1) = (j : Int) := by rw [IntKind.wrap_i64]; omega
            have hw2 : (k : Int) - 1 = (j : Int) := by omega
            have hw3 : IntKind.i64.wrap (j : Int) = (j : Int) := by rw [IntKind.wrap_i64]; omega
            have hj0 : (0 : Int) ≤ j := by omega
            have hjA : (A : Int) ≤ j := by omega
            have hji : (j : Int) < L := by omega
            have hjc : (j : Int) ≤ cap := by omega
            have hjA2 : j = A + (U - 1) := by omega
            have hge : l[A + (U - 1)]? = some l[j] := by rw [← hjA2, List.getElem?_eq_getElem hjl]
            by_cases h13 : l[j] = 13
            · have HW : Hid (Ck.lineAt (l.drop A) = ((l.take j).drop A, ((U + 1 : Nat) : Int), 0)) := by
                rw [HV.out, if_pos ⟨by omega, by omega⟩, if_pos ⟨by omega, by rw [hge, h13]⟩, ← hjA2]; exact Lib.hid rfl
              have i13 : (l[j].toNat : Int) = 13 := by rw [h13]; rfl
              rw [i13] at hcj
              have hT := HT.out j (by omega) (by omega)
              have hnn : (A : Int) + ((U + 1 : Nat) : Int) = (k : Int) + 1 := by omega
              have HWV : Hid (lres A (Ck.lineAt (l.drop A)) = .tuple #[.string (str ((l.take j).drop A)), .int .i64 ((k : Int) + 1), .int .i64 0]) := by
                rw [HW.out]; exact Lib.hid (by show Value.tuple #[_, .int .i64 ((A : Int) + ((U + 1 : Nat) : Int)), _] = _; rw [hnn])
              generalize str ((l.take j).drop A) = T at *
              clear HV F1 F2 HT HC i10 i13 HW hge h13 hj hjA2 hnn hkU2
              go_wp2_with fail
              go_ret3
              exact ⟨by rw [HWV.out]; rfl, rfl⟩
            · have HW : Hid (Ck.lineAt (l.drop A) = ([], 0, 10)) := by
                rw [HV.out, if_pos ⟨by omega, by omega⟩, if_neg (by rw [hge]; rintro ⟨_, e⟩; exact h13 (Option.some.inj e))]; exact Lib.hid rfl
              obtain ⟨b1, b2, b3⟩ := ne_oct l[j] 13 13 rfl h13
              clear HV F1 F2 HT HC i10 hge h13 hj hjA2 hkU2
              go_wp2_with fail
              go_ret3
              exact ⟨by rw [HW.out]; rfl, rfl⟩
      · by_cases hLm : L - A ≤ 255
        · have hkL : k = L := by omega
          have HW : Hid (Ck.lineAt (l.drop A) = ([], 0, 11)) := by rw [HV.out, if_neg (by omega), if_pos hLm]; exact Lib.hid rfl
          have hki : ¬ ((k : Int) < L) := by omega
          have hLi : ¬ (256 : Int) ≤ (L : Int) - A := by omega
          clear HV F1 F2 HT HC hkL hin
          go_wp2_with fail
          go_ret3
          exact ⟨by rw [HW.out]; rfl, rfl⟩
        · have HW : Hid (Ck.lineAt (l.drop A) = ([], 0, 12)) := by rw [HV.out, if_neg (by omega), if_neg hLm]; exact Lib.hid rfl
          have hLi : (256 : Int) ≤ (L : Int) - A := by omega
          by_cases hkL : k < L
          · have hki : (k : Int) < L := by omega
            have hkmi : ¬ (k : Int) < (A : Int) + 256 := by omega
            clear HV F1 F2 HT HC hin
            go_wp2_with fail
            go_ret3
            exact ⟨by rw [HW.out]; rfl, rfl⟩
          · have hki : ¬ ((k : Int) < L) := by omega
            clear HV F1 F2 HT HC hin
            go_wp2_with fail
            go_ret3
            exact ⟨by rw [HW.out]; rfl, rfl⟩
end Go.Proofs.YtgnopcghobaoiaaDoor
