/- Package target: octets and coded ones, made normal. -/
import Derived.Test.YtlikjfemkadciaaGreatDoorTg6
import Derived.Lib.BufferRead
namespace Go.Proofs.YtlikjfemkadciaaGreatDoor
open Go.RowKit

/-- 'append(b, s..)', s a string. -/
theorem appStr {ops : Array Oper} {rest : List Oper} {o : Oper} {a : Act} {Q : Exit → Act → World → Prop} {W w : World} {v : Value} {l : List UInt8} (h : Buf W w v l) (s : ByteArray) (hlen : l.length + s.size ≤ 100000000000)
    (hgd : o.guard = none) (sl x : Operand) (ho : o.op = .call { callee := .builtin .append, args := #[sl, x], argTypes := #[51, 9] })
    (hs : a.eval sl = v) (hx : a.eval x = .string s)
    (hK : ∀ v' w', Buf W w' v' (l ++ s.data.toList) → wpList Tryz.prog ops Q rest (a.put o.dst v') w') : wpList Tryz.prog ops Q (o :: rest) a w := by
  obtain ⟨i0, hi, hz0, hz1, hz2⟩ := info_parts bytes_info
  refine Lib.wpList_append_own_string _ hgd sl x _ _ ho W.heap.size 5 i0 Tryz.underlying51 Tryz.underlying9 hi hz0 hz1 hz2 v l.length (Lib.byteCells l) hs h.1 s hx (by unfold maxLen; omega) (by omega) h.2.size (fun v' w' h1 h2 _ => ?_)
  refine hK v' w' ⟨?_, h.2.grown h2 h.2.size (fun k hk => (h.1.lt k hk).1)⟩
  have e : Lib.byteCells (l ++ s.data.toList) = Lib.byteCells l ++ Lib.strCells s := by simp [Lib.byteCells, Lib.strCells]
  rw [e, List.length_append, Oct.length_size]
  exact h1

def eres : Option (List UInt8) → Value
  | none => .tuple #[.string ⟨#[]⟩, .bool false]
  | some m => .tuple #[.string (str m), .bool true]
/-- What has been made normal, and what is to come. -/
def ESt (p : UInt8 → Bool) (R : Option (List UInt8)) (P : List (List UInt8)) (k : Nat) (acc : List UInt8) : Prop :=
  if k = 0 then acc = [] ∧ R = Tg.evens p P else R = (Tg.tails p (P.drop k)).map (acc ++ ·)
theorem ESt.first {p : UInt8 → Bool} {R : Option (List UInt8)} {P : List (List UInt8)} {acc : List UInt8} (h : ESt p R P 0 acc) (h0 : 0 < P.length) : acc = [] ∧ (Oct.allOf p P[0] = true → ESt p R P 1 P[0]) ∧ (Oct.allOf p P[0] = false → R = none) := by
  obtain ⟨h1, h2⟩ : acc = [] ∧ R = Tg.evens p P := by simpa [ESt] using h
  cases P with
  | nil => simp at h0
  | cons x xs =>
    refine ⟨h1, fun hp => ?_, fun hp => ?_⟩
    · show R = _
      have hp : x.all p = true := hp
      rw [h2]; simp only [Tg.evens, Tg.first, hp, if_true]; rfl
    · have hp : x.all p = false := hp
      rw [h2]; simp [Tg.evens, Tg.first, hp]
theorem ESt.next {p : UInt8 → Bool} {R : Option (List UInt8)} {P : List (List UInt8)} {k : Nat} {acc : List UInt8} (h : ESt p R P k acc) (hk : 0 < k) (hkl : k < P.length) :
    (Tg.later p P[k] = none → R = none) ∧ (∀ y, Tg.later p P[k] = some y → ESt p R P (k + 1) (acc ++ y)) := by
  have h1 : R = (Tg.tails p (P.drop k)).map (acc ++ ·) := by unfold ESt at h; rwa [if_neg (by omega)] at h
  rw [List.drop_eq_getElem_cons hkl] at h1
  refine ⟨fun hn => ?_, fun y hy => ?_⟩
  · rw [h1]; simp [Tg.tails, hn]
  · unfold ESt
    rw [if_neg (by omega), h1]
    simp only [Tg.tails, hy, Option.bind_some]
    cases Tg.tails p (P.drop (k + 1)) <;> simp
theorem ESt.done {p : UInt8 → Bool} {R : Option (List UInt8)} {P : List (List UInt8)} {k : Nat} {acc : List UInt8} (h : ESt p R P k acc) (hk : 0 < k) (hkl : P.length ≤ k) : R = some acc := by
  have h1 : R = (Tg.tails p (P.drop k)).map (acc ++ ·) := by unfold ESt at h; rwa [if_neg (by omega)] at h
  rw [h1, List.drop_eq_nil_of_le hkl]; simp [Tg.tails]
theorem later_short {p : UInt8 → Bool} {x : List UInt8} (h : x.length < 2) : Tg.later p x = none := by
  match x, h with
  | [], _ => rfl
  | [_], _ => rfl
theorem later_cons (p : UInt8 → Bool) (a b : UInt8) (r : List UInt8) : Tg.later p (a :: b :: r) = if Tg.hexd a && Tg.hexd b && Oct.allOf p r then some (Tg.norm (16 * Oct.worth a + Oct.worth b) ++ r) else none := rfl
theorem hex_two (a b : UInt8) : Oct.number 16 255 [a, b] = if Tg.hexd a && Tg.hexd b then (((16 * Oct.worth a + Oct.worth b : Nat) : Int), 0) else (0, 10) := by
  have ea : Oct.dig 16 a = Tg.hexd a := rfl
  have eb : Oct.dig 16 b = Tg.hexd b := rfl
  unfold Oct.number
  by_cases hh : (Tg.hexd a && Tg.hexd b) = true
  · rw [if_pos hh]
    have hab := Bool.and_eq_true_iff.1 hh
    have h1 := Tg.hexd_lt hab.1
    have h2 := Tg.hexd_lt hab.2
    have : Oct.allOf (Oct.dig 16) [a, b] = true := by simp [Oct.allOf, ea, eb, hab.1, hab.2]
    rw [this, if_neg (by simp), if_neg (by decide)]
    simp only [Oct.num]
    rw [if_neg (by omega), if_neg (by omega)]
    simp; omega
  · rw [if_neg hh]
    have : Oct.allOf (Oct.dig 16) [a, b] = false := by
      simp [Oct.allOf, ea, eb]
      intro h; simpa [h] using hh
    rw [this, if_pos (by simp)]

theorem SIn.at {w : World} {A n : Nat} {P : List (List UInt8)} (h : SIn w (.slice (some ⟨A, 0, none⟩) n n) P) : ∀ j (hj : j < P.length), A < w.heap.size ∧ w.cell? ⟨A, j, none⟩ = some (.string (str P[j])) := by
  obtain ⟨ao, cap, e, h⟩ := h
  intro j hj
  obtain ⟨b, o, e2, hb, hc⟩ := h.resolve_left (fun e => by rw [e] at hj; cases hj)
  subst e2
  injection e with e3 _ _
  injection Option.some.inj e3 with e4 e5 _
  subst e4 e5
  have := hc j hj
  rw [Nat.zero_add] at this
  exact ⟨hb, this⟩

set_option maxHeartbeats 3200000 in
set_option maxRecDepth 100000 in
theorem even_s (p : UInt8 → Bool) (l : List UInt8) (v : Value) (ls : List (List UInt8)) (w : World) (hv : SIn w v ls) (hn : ls.length ≤ 100000) (hp : ∀ c, inSets ls c = p c) (hl : l.length ≤ 100000) (hm : MaxOk w) (hT : Tabs w) :
    Calls Tryz.prog 41 #[.string (str l), v] w fun e w' => e = .returned (eres (Tg.coded p l)) ∧ Below w.heap.size w w' := by
  obtain ⟨R, hR⟩ : ∃ R, R = Tg.coded p l := ⟨_, rfl⟩
  rw [← hR]
  have hRE : R = Tg.evens p (Tg.sp 37 l) := hR.trans (Tg.coded_evens p l)
  have cS := fun w hm => Split_w 37 l w (by omega) hm
  have hPl := Tg.sp_len 37 l
  have hPs := Tg.sp_size 37 l
  obtain ⟨x0, xs0, hP0⟩ := Tg.sp_cases 37 l
  have hP1 : 0 < (Tg.sp 37 l).length := by rw [hP0]; simp
  generalize Tg.sp 37 l = P at *
  generalize str l = s at *
  clear hR hP0
  obtain ⟨n, hnn⟩ : ∃ n, n = P.length := ⟨_, rfl⟩
  rw [← hnn] at cS hPl hP1
  have HN := Lib.hid hnn
  have HS := Lib.hid hPs
  have HE := Lib.hid hRE
  have HM := Lib.hid hm
  have HT := Lib.hid hT
  have hnl : n ≤ 100001 := by omega
  clear hPs hRE hnn hm hT hPl
  go_enter Tryz.func41, Tryz.ntmps41
  go_wp2_with fail
  refine (cS _ HM.out).mono ?_
  rintro e w1 ⟨⟨A, rfl, hin⟩, hb1⟩
  clear cS
  have HC := Lib.hid hin.at
  have HV := Lib.hid hv
  have HPn := HN.out
  have cO := fun (x : ByteArray) (W : World) (hb : Below w.heap.size w W) (hx : x.size ≤ 1000000) => only_s p x v ls W (HV.out.later hb) hn hp hx
  have cD := fun (m : Nat) (W : World) (hb : Below w.heap.size w W) (hm : m < 256) => decoded_s m W hm (HT.out.later hb)
  clear hin hp hn hv HPn
  go_wp2_with fail
  go_loopw [6, 14] (fun b i wr => ∃ (k : Nat) (acc : List UInt8), k ≤ n ∧ i = .int .i64 k ∧ Buf w1 wr b acc ∧ Hid (ESt p R P k acc) ∧ acc.length ≤ k * 100010) (fun _ i _ => n - (intOf i).toNat)
  case atStart => exact ⟨0, [], by omega, rfl, Buf.nil w1, by unfold ESt; rw [if_pos rfl]; exact Lib.hid ⟨rfl, HE.out⟩, by simp⟩
  case round =>
    obtain ⟨k, acc, hk, rfl, hB, HI, hac⟩ := hrel
    have hbw := bt' hb1 hB.below
    by_cases hlt : k < n
    · have hkl : k < P.length := by have := HN.out; omega
      have hxl : P[k].length ≤ 100000 := Nat.le_trans (HS.out _ (List.getElem_mem hkl)) hl
      have c1 : wr.cell? ⟨A, k, none⟩ = some (.string (str P[k])) := (hB.below.cell (p := ⟨A, k, none⟩) (HC.out k hkl).1).trans (HC.out k hkl).2
      have hxs := str_size P[k]
      by_cases h0 : k = 0
      · subst h0
        have hF := HI.out.first hkl
        obtain ⟨rfl, hF1, hF2⟩ := hF
        have cO := fun (W : World) (hb : Below w.heap.size w W) => cO (str P[0]) W hb (by omega)
        rw [str_list] at cO
        have hxd : (str P[0]).data.toList = P[0] := str_list _
        cases ha : Oct.allOf p P[0] with
        | false =>
          have HR := Lib.hid (hF2 ha)
          rw [ha] at cO
          generalize str P[0] = x at *
          clear hF1 hF2 ha hxd HI
          go_wp2_with fail
          refine (cO _ hbw).mono ?_
          rintro e W ⟨rfl, rfl⟩
          go_wp2_with fail
          go_ret2
          exact ⟨by rw [HR.out]; rfl, hbw⟩
        | true =>
          have HI2 := Lib.hid (hF1 ha)
          rw [ha] at cO
          generalize str P[0] = x at *
          clear hF1 hF2 ha HI
          go_wp2_with fail
          refine (cO _ hbw).mono ?_
          rintro e W ⟨rfl, rfl⟩
          go_wp2_with (refine appStr hB x (by simp; omega) rfl _ _ rfl rfl rfl ?_; intro v2 W2 hB2)
          go_roundw
          case rel => exact ⟨1, P[0], by omega, by go_num, by rw [hxd] at hB2; exact hB2, HI2, by omega⟩
          case measure => simp [intOf]; omega
      · have hk0 : (0 : Int) < k := by omega
        have hX := HI.out.next (by omega) hkl
        clear h0
        by_cases h2 : P[k].length < 2
        · have HR := Lib.hid (hX.1 (later_short h2))
          have h2x : ((str P[k]).size : Int) < 2 := by omega
          generalize str P[k] = x at *
          clear hX HI h2 hxs
          go_wp2_with fail
          go_ret2
          exact ⟨by rw [HR.out]; rfl, hbw⟩
        · obtain ⟨a, b', r, hab⟩ : ∃ a b' r, P[k] = a :: b' :: r := by
            match hh : P[k], h2 with
            | [], h2 => exact absurd (by simp) h2
            | [_], h2 => exact absurd (by simp) h2
            | a :: b' :: r, _ => exact ⟨a, b', r, rfl⟩
          have h2x : ¬ ((str P[k]).size : Int) < 2 := by omega
          have hxd : (str P[k]).data.toList = a :: b' :: r := by rw [str_list, hab]
          have hrl : r.length ≤ 100000 := by rw [hab] at hxl; simp at hxl; omega
          have hxz : (str P[k]).size = r.length + 2 := by rw [str_size, hab]; simp
          rw [hab] at hX
          rw [later_cons] at hX
          generalize str P[k] = x at *
          have e2 : (x.extract 0 2).data.toList = [a, b'] := by rw [Lib.extract_data, hxd]; simp
          have er : (x.extract 2 x.size).data.toList = r := by
            rw [Lib.extract_data, hxd, List.take_of_length_le]
            · rfl
            · simp; omega
          have hx2 : (2 : Int) ≤ x.size := by omega
          have hxz2 : (x.extract 2 x.size).size ≤ 1000000 := by simp; omega
          have hxz3 : (x.extract 2 x.size).size = r.length := by rw [Lib.size_eq, er]
          have hx0 : (x.extract 0 2).size ≤ 1000000 := by simp; omega
          have h2h := hex_two a b'
          rw [← e2] at h2h
          have cO := fun (W : World) (hb : Below w.heap.size w W) => cO (x.extract 2 x.size) W hb hxz2
          rw [er] at cO
          clear hab HI hxl hxs h2 hxz hxz2
          cases hh : (Tg.hexd a && Tg.hexd b') with
          | false =>
            have HR : Hid (R = none) := Lib.hid (hX.1 (by rw [hh]; rfl))
            have cH2 : ∀ W, Calls Tryz.prog 62 #[.string (x.extract 0 2), .int .i64 255] W fun r w' => r = .returned (.tuple #[.int .i64 0, .int .i64 10]) ∧ Below W.heap.size W w' := by
              intro W; exact Hex_is (x.extract 0 2) 255 0 10 W hx0 (by decide) (by decide) (by rw [h2h, hh]; rfl)
            clear hX hh h2h e2
            go_wp2_with fail
            refine (cH2 _).mono ?_
            rintro e W ⟨rfl, hb2⟩
            go_wp2_with fail
            go_ret2
            exact ⟨by rw [HR.out]; rfl, bt' hbw hb2⟩
          | true =>
            obtain ⟨m, hm⟩ : ∃ m, m = 16 * Oct.worth a + Oct.worth b' := ⟨_, rfl⟩
            have cH2 : ∀ W, Calls Tryz.prog 62 #[.string (x.extract 0 2), .int .i64 255] W fun r w' => r = .returned (.tuple #[.int .i64 m, .int .i64 0]) ∧ Below W.heap.size W w' := by
              intro W; exact Hex_is (x.extract 0 2) 255 m 0 W hx0 (by decide) (by decide) (by rw [h2h, hh, ← hm]; rfl)
            have hm256 : m < 256 := by
              have hab := Bool.and_eq_true_iff.1 hh
              have h1 := Tg.hexd_lt hab.1
              have h2 := Tg.hexd_lt hab.2
              omega
            have hw8 : IntKind.u8.wrap (m : Int) = (m : Int) := by rw [IntKind.wrap_u8]; omega
            rw [hh, ← hm] at hX
            have hnl3 := Tg.norm_len m
            have hsn := str_size (Tg.norm m)
            have hdn := str_list (Tg.norm m)
            have HX := Lib.hid hX
            have cD := fun (W : World) (hb : Below w.heap.size w W) => cD m W hb hm256
            generalize str (Tg.norm m) = z at *
            clear hh h2h hX hxd e2 hm hx0
            go_wp2_with fail
            refine (cH2 _).mono ?_
            rintro e W2 ⟨rfl, hb2⟩
            have hbw2 := bt' hbw hb2
            have hB2 := hB.after hb2
            have hzl : acc.length + z.size ≤ 100000000000 := by omega
            have hlen2 : (acc ++ z.data.toList).length ≤ k * 100010 + 3 := by rw [List.length_append, Oct.length_size]; omega
            have hyl : (acc ++ z.data.toList).length + (x.extract 2 x.size).size ≤ 100000000000 := by omega
            have HZL := Lib.hid hzl
            have HYL := Lib.hid hyl
            have HL : Hid ((acc ++ (Tg.norm m ++ r)).length ≤ (k + 1) * 100010) := by
              have : (acc ++ (Tg.norm m ++ r)).length ≤ (k + 1) * 100010 := by rw [List.length_append, List.length_append]; omega
              exact Lib.hid this
            clear hzl hlen2 hyl hac hnl3 hsn hxz3
            cases ha : Oct.allOf p r with
            | false =>
              have HR : Hid (R = none) := Lib.hid (HX.out.1 (by rw [ha]; rfl))
              rw [ha] at cO
              clear HX ha
              go_wp2_with fail
              refine (cD _ hbw2).mono ?_
              rintro e W3 ⟨rfl, hb3⟩
              have hbw3 := bt' hbw2 hb3
              have hB3 := hB2.after hb3
              go_wp2_with (at_builtin; refine appStr hB3 z HZL.out rfl _ _ rfl rfl rfl ?_; intro v4 W4 hB4)
              have hbw4 := bt' hb1 hB4.below
              refine (cO _ hbw4).mono ?_
              rintro e W5 ⟨rfl, rfl⟩
              go_wp2_with fail
              go_ret2
              exact ⟨by rw [HR.out]; rfl, hbw4⟩
            | true =>
              have HI2 : Hid (ESt p R P (k + 1) (acc ++ (Tg.norm m ++ r))) := Lib.hid (HX.out.2 _ (by rw [ha]; rfl))
              rw [ha] at cO
              have hyd := er
              have HF : Hid (acc ++ z.data.toList ++ (x.extract 2 x.size).data.toList = acc ++ (Tg.norm m ++ r)) := by rw [hyd, hdn, List.append_assoc]; exact Lib.hid rfl
              clear HX ha hyd er
              go_wp2_with fail
              refine (cD _ hbw2).mono ?_
              rintro e W3 ⟨rfl, hb3⟩
              have hbw3 := bt' hbw2 hb3
              have hB3 := hB2.after hb3
              go_wp2_with (at_builtin; refine appStr hB3 z HZL.out rfl _ _ rfl rfl rfl ?_; intro v4 W4 hB4)
              have hbw4 := bt' hb1 hB4.below
              refine (cO _ hbw4).mono ?_
              rintro e W5 ⟨rfl, rfl⟩
              go_wp2_with (at_builtin; refine appStr hB4 (x.extract 2 x.size) HYL.out rfl _ _ rfl rfl rfl ?_; intro v6 W6 hB6)
              go_roundw
              case rel => exact ⟨k + 1, acc ++ (Tg.norm m ++ r), by omega, by go_num, by rw [← HF.out]; exact hB6, HI2, HL.out⟩
              case measure => simp [intOf]; omega
    · obtain rfl : k = n := by omega
      have HR := Lib.hid (HI.out.done (by omega) (by have := HN.out; omega))
      have hS := hB.string
      go_wp2_with fail
      go_ret2
      exact ⟨by rw [HR.out]; rfl, hbw⟩
end Go.Proofs.YtlikjfemkadciaaGreatDoor
