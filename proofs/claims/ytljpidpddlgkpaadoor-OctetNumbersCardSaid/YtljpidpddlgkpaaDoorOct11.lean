/- Package octet: lists, cut: the document's own answer. -/
import Derived.Test.YtljpidpddlgkpaaDoorOct10
namespace Go.Proofs.YtljpidpddlgkpaaDoor
open Go.RowKit

/-- v is a slice of the call's own, and holds the texts ls. -/
def SBuf (W w : World) (v : Value) (ls : List (List UInt8)) : Prop := w.ownsRow W.heap.size 9 1 v ls.length (strCells ls) ∧ Below W.heap.size W w
theorem SBuf.nil (W : World) : SBuf W W (.slice none 0 0) [] := ⟨World.ownsRow_nil _ _ _ _, Below.refl _ _⟩
theorem SBuf.after {W w w' : World} {v : Value} {ls : List (List UInt8)} (h : SBuf W w v ls) (hb : Below w.heap.size w w') : SBuf W w' v ls :=
  ⟨ownsRow_after h.1 (fun g cur hg => by rw [hb.block g (lt_of_block hg)]; exact hg), h.2.trans (hb.mono h.2.size)⟩
theorem SBuf.sin {W w : World} {v : Value} {ls : List (List UInt8)} (h : SBuf W w v ls) : SIn w v ls := SIn.of_row h.1

theorem appS {ops : Array Oper} {rest : List Oper} {o : Oper} {a : Act} {Q : Exit → Act → World → Prop} {W w : World} {v : Value} {ls : List (List UInt8)} (h : SBuf W w v ls) (l : List UInt8) (hlen : ls.length ≤ 100000000000)
    (hgd : o.guard = none) (s x : Operand) (ho : o.op = .call { callee := .builtin .append, args := #[s, x], argTypes := #[35, 35] })
    (t : ByteArray) (ht : t = str l) (hs : a.eval s = v) (hx : a.eval x = .slice (some ⟨w.heap.size, 0, none⟩) 1 1)
    (hK : ∀ v' w', SBuf W w' v' (ls ++ [l]) → Below w.heap.size w w' ∨ True → wpList Tryd.prog ops Q rest (a.put o.dst v') w') : wpList Tryd.prog ops Q (o :: rest) a (w.alloc (.cells #[.string t] 9)) := by
  obtain ⟨i0, hi, hz0, hz1, hz2⟩ := info_parts strs_info
  have hA := h.after ((Below.refl _ w).alloc (Nat.le_refl _) (.cells #[.string t] 9))
  refine wpList_append_own _ hgd s x _ ho W.heap.size 9 i0 (.string ⟨#[]⟩) 1 16 Tryd.underlying35 hi hz0 hz1 hz2 rfl (by decide) v ls.length (strCells ls) hs hA.1 ⟨w.heap.size, 0, none⟩ 1 1 [.string t] hx rfl ?_ ?_ (by unfold maxLen; omega) (by omega) hA.2.size (fun v' w' h1 h2 h3 => ?_)
  · intro j u hj
    match j, hj with
    | 0, hj =>
      simp at hj; subst hj
      show (w.alloc (.cells #[.string t] 9)).cell? ⟨w.heap.size, 0 + 0, none⟩ = _
      rw [World.cell?_alloc_at _ _ _ _ rfl]; rfl
  · intro u hu; simp at hu; subst hu; rfl
  · refine hK v' w' ⟨?_, hA.2.grown h2 hA.2.size (fun k hk => (hA.1.lt k hk).1)⟩ (.inr trivial)
    rw [strCells_snoc, ← ht]
    simpa using h1

/-- The round's state: what has been gathered, behind place k (one more than there are octets: the end has been met). -/
def RAt (s : ByteArray) (D acc : List (List UInt8)) (f k : Nat) (q e : Bool) : Prop :=
  (k ≤ s.size → f ≤ k ∧ (e = true → q = true) ∧ ∃ out, acc = D ++ out ∧ Oct.At s f k out q e) ∧ (k = s.size + 1 → acc = D ++ Oct.splitText s.data.toList)
theorem RAt.zero (s : ByteArray) (D : List (List UInt8)) : RAt s D D 0 0 false false := ⟨fun _ => ⟨Nat.le_refl 0, fun h => h, [], by rw [List.append_nil], Oct.At.zero s⟩, fun h => by omega⟩
theorem RAt.le {s : ByteArray} {D acc : List (List UInt8)} {f k : Nat} {q e : Bool} (h : RAt s D acc f k q e) (hk : k ≤ s.size) : f ≤ k := (h.1 hk).1
theorem RAt.eq {s : ByteArray} {D acc : List (List UInt8)} {f k : Nat} {q e : Bool} (h : RAt s D acc f k q e) (hk : k ≤ s.size) : e = true → q = true := (h.1 hk).2.1
theorem RAt.len {s : ByteArray} {D acc : List (List UInt8)} {f k : Nat} {q e : Bool} (h : RAt s D acc f k q e) (hk : k ≤ s.size) : acc.length ≤ D.length + k := by
  obtain ⟨_, _, out, rfl, hA⟩ := h.1 hk
  have := hA.len
  rw [List.length_append]; omega
theorem RAt.last {s : ByteArray} {D acc : List (List UInt8)} {f : Nat} {q e : Bool} (h : RAt s D acc f s.size q e) (f' : Nat) (q' e' : Bool) : RAt s D (acc ++ Oct.emit (s.extract f s.size).data.toList) f' (s.size + 1) q' e' := by
  obtain ⟨_, _, out, rfl, hA⟩ := h.1 (Nat.le_refl _)
  refine ⟨fun h => by omega, fun _ => ?_⟩
  rw [hA.done, cut_mid, Oct.take_all s s.size (Nat.le_refl _), List.append_assoc]
theorem RAt.cut {s : ByteArray} {D acc : List (List UInt8)} {f k : Nat} (h : RAt s D acc f k false false) (hk : k < s.size) (hc : (s[k].toNat : Int) = 44) : RAt s D (acc ++ Oct.emit (s.extract f k).data.toList) (k + 1) (k + 1) false false := by
  obtain ⟨_, _, out, rfl, hA⟩ := h.1 (by omega)
  have e := Oct.u8_eq (n := 44) hc
  have hn : Oct.nq false false s[k] = (false, false) := by rw [e]; rfl
  have h2 := hA.cut hk (by rw [hn]) e
  rw [hn] at h2
  exact ⟨fun _ => ⟨Nat.le_refl _, fun h => h, out ++ Oct.emit (s.extract f k).data.toList, by rw [List.append_assoc], by rw [cut_mid]; exact h2⟩, fun h => by omega⟩
theorem RAt.on {s : ByteArray} {D acc : List (List UInt8)} {f k : Nat} {q e : Bool} (h : RAt s D acc f k q e) (hk : k < s.size) (q' e' : Bool) (hn : Oct.nq q e s[k] = (q', e')) (hne : q' = true ∨ ¬ (s[k].toNat : Int) = 44) (he : e' = true → q' = true) : RAt s D acc f (k + 1) q' e' := by
  obtain ⟨hf, _, out, rfl, hA⟩ := h.1 (by omega)
  have h2 := hA.on hk (by
    rw [hn]; rintro ⟨a, b⟩
    rcases hne with rfl | hne
    · cases a
    · exact hne (by rw [b]; rfl))
  rw [hn] at h2
  exact ⟨fun _ => ⟨by omega, he, out, rfl, h2⟩, fun h => by omega⟩
theorem RAt.done {s : ByteArray} {D acc : List (List UInt8)} {f k : Nat} {q e : Bool} (h : RAt s D acc f k q e) (hk : k = s.size + 1) : acc = D ++ Oct.splitText s.data.toList := h.2 hk

set_option maxHeartbeats 6400000 in
set_option maxRecDepth 100000 in
theorem rSplit_s (va : Value) (ls : List (List UInt8)) (w : World) (hv : SIn w va ls) (hn : ls.length ≤ 1000) (hl : ∀ l ∈ ls, l.length ≤ 1000000) :
    Calls Tryd.prog 24 #[va] w fun e w' => ∃ v, e = .returned v ∧ SBuf w w' v (Oct.splitAll ls) := by
  obtain ⟨ao, ca, rfl, hv⟩ := hv
  obtain ⟨n, hnn⟩ : ∃ n, n = ls.length := ⟨_, rfl⟩
  rw [← hnn] at hn ⊢
  have HN := Lib.hid hnn
  by_cases h0 : n = 0
  · subst h0
    have HE : Hid (ls = []) := List.eq_nil_of_length_eq_zero HN.out.symm
    clear hnn hv hl
    go_enter Tryd.func24, Tryd.ntmps24
    go_wp2_with fail
    refine wp_loop_rounds 1 ?_
    rw [rounds_succ]
    go_wp2_with fail
    go_ret
    exact ⟨_, rfl, by rw [HE.out]; exact SBuf.nil _⟩
  obtain ⟨b, o, rfl, hb, hc⟩ := hv.resolve_left (fun e => h0 (by rw [hnn, e]; rfl))
  have HC : Hid (∀ j (hj : j < n), w.cell? ⟨b, o + j, none⟩ = some (.string (str (ls[j]'(HN.out ▸ hj))))) := fun j hj => hc j (HN.out ▸ hj)
  have HL := Lib.hid hl
  clear hc hv hnn h0 hl
  go_enter Tryd.func24, Tryd.ntmps24
  go_wp2_with fail
  go_loopw [3, 4] (fun v i wr => ∃ k : Nat, k ≤ n ∧ i = .int .i64 k ∧ SBuf w wr v (Oct.splitAll (ls.take k))) (fun _ i _ => n - (intOf i).toNat)
  case atStart => exact ⟨0, by omega, rfl, SBuf.nil w⟩
  case round =>
    obtain ⟨k, hk, rfl, hP⟩ := hrel
    obtain ⟨wo, rfl⟩ : ∃ wo : World, wo = wr := ⟨_, rfl⟩
    by_cases hlt : k < n
    · have hkl : k < ls.length := by have := HN.out; omega
      have HSn := Lib.hid (Oct.splitAll_snoc ls k hkl)
      have hcell := HC.out k hlt
      rw [← hP.2.cell (p := ⟨b, o + k, none⟩) hb] at hcell
      have hsz : (str ls[k]).size ≤ 1000000 := by rw [str_size]; exact HL.out _ (List.getElem_mem hkl)
      have HX := Lib.hid (str_list ls[k])
      have HD : Hid ((Oct.splitAll (ls.take k)).length ≤ 1000001 * 1000) := by
        have h1 := Oct.splitAll_len (ls.take k) (fun l hl => HL.out l (List.mem_of_mem_take hl))
        have h2 := List.length_take_le k ls
        show _ ≤ _
        omega
      obtain ⟨D, hDD⟩ : ∃ D, D = Oct.splitAll (ls.take k) := ⟨_, rfl⟩
      rw [← hDD] at hP HD HSn
      clear hDD
      generalize str ls[k] = s at hcell hsz HX
      go_wp2_with fail
      clear hcell
      go_loopw [3, 6, 7, 8, 9] (fun v f x y i wr => ∃ (f' k' : Nat) (q e : Bool) (acc : List (List UInt8)), k' ≤ s.size + 1 ∧ f = .int .i64 f' ∧ x = .bool q ∧ y = .bool e ∧ i = .int .i64 k' ∧ Hid (RAt s D acc f' k' q e) ∧ SBuf w wr v acc) (fun _ _ _ _ i _ => s.size + 1 - (intOf i).toNat)
      case atStart => exact ⟨0, 0, false, false, D, by omega, rfl, rfl, rfl, rfl, RAt.zero s D, hP⟩
      case round =>
        clear hP
        obtain ⟨f', k', q, e, acc, hk', rfl, rfl, rfl, rfl, HA, hP⟩ := hrel
        by_cases hend : k' ≤ s.size
        case neg =>
          have HT := Lib.hid (HA.out.done (by omega))
          go_wp2_with fail
          go_roundw
          case rel => exact ⟨k + 1, by omega, by go_num, by rw [HSn.out, ← HX.out, ← HT.out]; exact hP⟩
          case measure => simp [intOf]; omega
        have hf' := HA.out.le hend
        have hlen : acc.length ≤ 100000000000 := by
          have h1 := HA.out.len hend
          have h2 : D.length ≤ 1000001 * 1000 := HD.out
          omega
        by_cases hlt2 : k' < s.size
        case neg =>
          obtain rfl : k' = s.size := by omega
          have hcs : (s.extract f' s.size).size ≤ 1000000 := by simp; omega
          by_cases he : Oct.trim (s.extract f' s.size).data.toList = []
          · have HM : Hid (Oct.emit (s.extract f' s.size).data.toList = []) := Oct.emit_no he
            have HS : Hid (str (Oct.trim (s.extract f' s.size).data.toList) = ⟨#[]⟩) := by rw [he]; rfl
            clear he
            go_wp2_with (go_at_call 15; refine (rTrim_s (s.extract f' s.size) _ hcs).mono ?_; rw [HS.out]; rintro r w' ⟨rfl, rfl⟩)
            go_roundw
            case rel => exact ⟨s.size + 1, s.size + 1, _, _, acc, by omega, by go_num, rfl, rfl, by go_num, by have h := HA.out.last (s.size + 1) q e; rw [HM.out, List.append_nil] at h; exact h, hP⟩
            case measure => simp [intOf]
          · have HM : Hid (Oct.emit (s.extract f' s.size).data.toList = [Oct.trim (s.extract f' s.size).data.toList]) := Oct.emit_yes he
            have hx1 : (str (Oct.trim (s.extract f' s.size).data.toList)).toList.isEmpty = false := by
              rw [str_toList]; cases h : Oct.trim (s.extract f' s.size).data.toList with
              | nil => exact absurd h he
              | cons _ _ => rfl
            have hx2 : ¬ (str (Oct.trim (s.extract f' s.size).data.toList)).toList = [] := by rw [str_toList]; exact he
            obtain ⟨t, ht⟩ : ∃ t, t = str (Oct.trim (s.extract f' s.size).data.toList) := ⟨_, rfl⟩
            rw [← ht] at hx1 hx2
            have HT := Lib.hid ht
            clear he ht
            go_wp2_with (first | (go_at_call 15; refine (rTrim_s (s.extract f' s.size) _ hcs).mono ?_; rw [← HT.out]; rintro r w' ⟨rfl, rfl⟩) | (at_builtin; refine appS hP _ hlen rfl _ _ rfl t HT.out rfl rfl ?_; intro v2 w2 hP2 _))
            go_roundw
            case rel => exact ⟨s.size + 1, s.size + 1, _, _, _, by omega, by go_num, rfl, rfl, by go_num, by have h := HA.out.last (s.size + 1) q e; rw [HM.out] at h; exact h, hP2⟩
            case measure => simp [intOf]
        have hc := (s[k']).toNat_lt
        have b0 : ((k' : Int) == (s.size : Int)) = false := beq_eq_false_iff_ne.2 (by omega)
        have HEQ := Lib.hid (HA.out.eq hend)
        cases e with
        | true =>
          obtain rfl : q = true := HEQ.out rfl
          by_cases h44 : (s[k'].toNat : Int) = 44
          · have HN2 := Lib.hid (HA.out.on hlt2 true false (Oct.nq_esc _ _) (.inl rfl) (fun h => absurd h (by simp)))
            have b44 : ((s[k'].toNat : Int) == 44) = true := beq_iff_eq.2 h44
            clear h44
            go_wp2_with fail
            go_roundw
            case rel => exact ⟨f', k' + 1, true, false, acc, by omega, rfl, rfl, rfl, by go_num, HN2, hP⟩
            case measure => simp [intOf]; omega
          · have HN2 := Lib.hid (HA.out.on hlt2 true false (Oct.nq_esc _ _) (.inl rfl) (fun h => absurd h (by simp)))
            have b44 : ((s[k'].toNat : Int) == 44) = false := beq_eq_false_iff_ne.2 h44
            go_wp2_with fail
            go_roundw
            case rel => exact ⟨f', k' + 1, true, false, acc, by omega, rfl, rfl, rfl, by go_num, HN2, hP⟩
            case measure => simp [intOf]; omega
        | false =>
          by_cases h44 : (s[k'].toNat : Int) = 44
          · cases q with
            | false =>
              have HN2 := Lib.hid (HA.out.cut hlt2 h44)
              have b44 : ((s[k'].toNat : Int) == 44) = true := beq_iff_eq.2 h44
              have b34 : ((s[k'].toNat : Int) == 34) = false := beq_eq_false_iff_ne.2 (by omega)
              have b92 : ((s[k'].toNat : Int) == 92) = false := beq_eq_false_iff_ne.2 (by omega)
              clear h44
              have hcs : (s.extract f' k').size ≤ 1000000 := by simp; omega
              by_cases he : Oct.trim (s.extract f' k').data.toList = []
              · have HM : Hid (Oct.emit (s.extract f' k').data.toList = []) := Oct.emit_no he
                have HS : Hid (str (Oct.trim (s.extract f' k').data.toList) = ⟨#[]⟩) := by rw [he]; rfl
                clear he
                go_wp2_with (go_at_call 15; refine (rTrim_s (s.extract f' k') _ hcs).mono ?_; rw [HS.out]; rintro r w' ⟨rfl, rfl⟩)
                go_roundw
                case rel => exact ⟨k' + 1, k' + 1, _, _, acc, by omega, by go_num, rfl, rfl, by go_num, by have h := HN2.out; rw [HM.out, List.append_nil] at h; exact h, hP⟩
                case measure => simp [intOf]; omega
              · have HM : Hid (Oct.emit (s.extract f' k').data.toList = [Oct.trim (s.extract f' k').data.toList]) := Oct.emit_yes he
                have hx1 : (str (Oct.trim (s.extract f' k').data.toList)).toList.isEmpty = false := by
                  rw [str_toList]; cases h : Oct.trim (s.extract f' k').data.toList with
                  | nil => exact absurd h he
                  | cons _ _ => rfl
                have hx2 : ¬ (str (Oct.trim (s.extract f' k').data.toList)).toList = [] := by rw [str_toList]; exact he
                obtain ⟨t, ht⟩ : ∃ t, t = str (Oct.trim (s.extract f' k').data.toList) := ⟨_, rfl⟩
                rw [← ht] at hx1 hx2
                have HT := Lib.hid ht
                clear he ht
                go_wp2_with (first | (go_at_call 15; refine (rTrim_s (s.extract f' k') _ hcs).mono ?_; rw [← HT.out]; rintro r w' ⟨rfl, rfl⟩) | (at_builtin; refine appS hP _ hlen rfl _ _ rfl t HT.out rfl rfl ?_; intro v2 w2 hP2 _))
                go_roundw
                case rel => exact ⟨k' + 1, k' + 1, _, _, _, by omega, by go_num, rfl, rfl, by go_num, by have h := HN2.out; rw [HM.out] at h; exact h, hP2⟩
                case measure => simp [intOf]; omega
            | true =>
              have HN2 := Lib.hid (HA.out.on hlt2 true false (Oct.nq_else _ _ (by omega) (by omega)) (.inl rfl) (fun h => absurd h (by simp)))
              have b44 : ((s[k'].toNat : Int) == 44) = true := beq_iff_eq.2 h44
              have b34 : ((s[k'].toNat : Int) == 34) = false := beq_eq_false_iff_ne.2 (by omega)
              have b92 : ((s[k'].toNat : Int) == 92) = false := beq_eq_false_iff_ne.2 (by omega)
              clear h44
              go_wp2_with fail
              go_roundw
              case rel => exact ⟨f', k' + 1, true, false, acc, by omega, rfl, rfl, rfl, by go_num, HN2, hP⟩
              case measure => simp [intOf]; omega
          by_cases h34 : (s[k'].toNat : Int) = 34
          · cases q with
            | false =>
              have HN2 := Lib.hid (HA.out.on hlt2 true false (Oct.nq_quote false _ h34) (.inl rfl) (fun _ => rfl))
              have b44 : ((s[k'].toNat : Int) == 44) = false := beq_eq_false_iff_ne.2 (by omega)
              have b34 : ((s[k'].toNat : Int) == 34) = true := beq_iff_eq.2 h34
              have b92 : ((s[k'].toNat : Int) == 92) = false := beq_eq_false_iff_ne.2 (by omega)
              clear h34
              go_wp2_with fail
              go_roundw
              case rel => exact ⟨f', k' + 1, true, false, acc, by omega, rfl, rfl, rfl, by go_num, HN2, hP⟩
              case measure => simp [intOf]; omega
            | true =>
              have HN2 := Lib.hid (HA.out.on hlt2 false false (Oct.nq_quote true _ h34) (.inr (by omega)) (fun h => h))
              have b44 : ((s[k'].toNat : Int) == 44) = false := beq_eq_false_iff_ne.2 (by omega)
              have b34 : ((s[k'].toNat : Int) == 34) = true := beq_iff_eq.2 h34
              have b92 : ((s[k'].toNat : Int) == 92) = false := beq_eq_false_iff_ne.2 (by omega)
              clear h34
              go_wp2_with fail
              go_roundw
              case rel => exact ⟨f', k' + 1, false, false, acc, by omega, rfl, rfl, rfl, by go_num, HN2, hP⟩
              case measure => simp [intOf]; omega
          by_cases h92 : (s[k'].toNat : Int) = 92
          · cases q with
            | false =>
              have HN2 := Lib.hid (HA.out.on hlt2 false false (Oct.nq_out _ (by omega)) (.inr (by omega)) (fun h => h))
              have b44 : ((s[k'].toNat : Int) == 44) = false := beq_eq_false_iff_ne.2 (by omega)
              have b34 : ((s[k'].toNat : Int) == 34) = false := beq_eq_false_iff_ne.2 (by omega)
              have b92 : ((s[k'].toNat : Int) == 92) = true := beq_iff_eq.2 h92
              clear h92
              go_wp2_with fail
              go_roundw
              case rel => exact ⟨f', k' + 1, false, false, acc, by omega, rfl, rfl, rfl, by go_num, HN2, hP⟩
              case measure => simp [intOf]; omega
            | true =>
              have HN2 := Lib.hid (HA.out.on hlt2 true true (Oct.nq_mark _ h92) (.inl rfl) (fun h => h))
              have b44 : ((s[k'].toNat : Int) == 44) = false := beq_eq_false_iff_ne.2 (by omega)
              have b34 : ((s[k'].toNat : Int) == 34) = false := beq_eq_false_iff_ne.2 (by omega)
              have b92 : ((s[k'].toNat : Int) == 92) = true := beq_iff_eq.2 h92
              clear h92
              go_wp2_with fail
              go_roundw
              case rel => exact ⟨f', k' + 1, true, true, acc, by omega, rfl, rfl, rfl, by go_num, HN2, hP⟩
              case measure => simp [intOf]; omega
          cases q with
          | false =>
            have HN2 := Lib.hid (HA.out.on hlt2 false false (Oct.nq_else _ _ h34 h92) (.inr h44) (fun h => h))
            have b44 : ((s[k'].toNat : Int) == 44) = false := beq_eq_false_iff_ne.2 (by omega)
            have b34 : ((s[k'].toNat : Int) == 34) = false := beq_eq_false_iff_ne.2 (by omega)
            have b92 : ((s[k'].toNat : Int) == 92) = false := beq_eq_false_iff_ne.2 (by omega)
            clear h44 h34 h92
            go_wp2_with fail
            go_roundw
            case rel => exact ⟨f', k' + 1, false, false, acc, by omega, rfl, rfl, rfl, by go_num, HN2, hP⟩
            case measure => simp [intOf]; omega
          | true =>
            have HN2 := Lib.hid (HA.out.on hlt2 true false (Oct.nq_else _ _ h34 h92) (.inr h44) (fun h => absurd h (by simp)))
            have b44 : ((s[k'].toNat : Int) == 44) = false := beq_eq_false_iff_ne.2 (by omega)
            have b34 : ((s[k'].toNat : Int) == 34) = false := beq_eq_false_iff_ne.2 (by omega)
            have b92 : ((s[k'].toNat : Int) == 92) = false := beq_eq_false_iff_ne.2 (by omega)
            clear h44 h34 h92
            go_wp2_with fail
            go_roundw
            case rel => exact ⟨f', k' + 1, true, false, acc, by omega, rfl, rfl, rfl, by go_num, HN2, hP⟩
            case measure => simp [intOf]; omega
    · obtain rfl : k = n := by omega
      have HTA : Hid (ls.take k = ls) := List.take_of_length_le (by have := HN.out; omega)
      go_wp2_with fail
      go_ret
      exact ⟨_, rfl, by rw [HTA.out] at hP; exact hP⟩

end Go.Proofs.YtljpidpddlgkpaaDoor
