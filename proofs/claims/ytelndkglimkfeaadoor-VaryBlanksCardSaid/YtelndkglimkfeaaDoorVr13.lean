/- The statements of layer 9: VaryOrder. -/
import Derived.Test.YtelndkglimkfeaaDoorVr10
namespace Vr
/-- The first k octets in great letters. -/
def upTo (l : T) (k : Nat) : T := upper (l.take k) ++ l.drop k
theorem upTo_zero (l : T) : upTo l 0 = l := by simp [upTo, upper]
theorem upTo_length (l : T) (k : Nat) : (upTo l k).length = l.length := by simp [upTo, upper]; omega
theorem upTo_all (s : ByteArray) : upTo s.data.toList s.size = upper s.data.toList := by
  unfold upTo
  rw [Oct.take_all s s.size (Nat.le_refl _), List.drop_of_length_le (by rw [Oct.length_size]; exact Nat.le_refl _), List.append_nil]
theorem upTo_at (s : ByteArray) (k : Nat) (h : k < s.size) {hk : k < (upTo s.data.toList k).length} : (upTo s.data.toList k)[k] = s[k] := by
  have h' : k < s.data.toList.length := by rw [Oct.length_size]; exact h
  have e : (upTo s.data.toList k)[k]? = some s[k] := by
    unfold upTo
    rw [List.getElem?_append_right (by simp [upper]; omega)]
    rw [upper_length, List.length_take, Nat.min_eq_left (Nat.le_of_lt h'), Nat.sub_self, List.getElem?_drop, Nat.add_zero, List.getElem?_eq_getElem h']
    rfl
  rw [List.getElem?_eq_getElem hk] at e; exact Option.some.inj e
theorem upTo_next (s : ByteArray) (k : Nat) (h : k < s.size) : upTo s.data.toList (k + 1) = (upTo s.data.toList k).set k (up8 s[k]) := by
  have h' : k < s.data.toList.length := by rw [Oct.length_size]; exact h
  unfold upTo
  rw [Oct.take_snoc s k h, Oct.drop_cons s k h]
  have e : upper (s.data.toList.take k ++ [s[k]]) = upper (s.data.toList.take k) ++ [up8 s[k]] := by simp [upper]
  rw [e, List.append_assoc, List.set_append_right _ _ (by rw [upper_length, List.length_take]; omega), upper_length, List.length_take, Nat.min_eq_left (Nat.le_of_lt h'), Nat.sub_self]
  rfl
theorem up_yes (c : UInt8) (h1 : (97 : Int) ≤ c.toNat) (h2 : (c.toNat : Int) ≤ 122) : (c.toNat : Int) - 32 = ((up8 c).toNat : Int) := by
  have := Oct.all_octets (fun c => !(decide (97 ≤ c.toNat) && decide (c.toNat ≤ 122)) || decide (c.toNat = (up8 c).toNat + 32)) (by decide +kernel) c
  simp only [Bool.or_eq_true, Bool.not_eq_true', Bool.and_eq_false_iff, decide_eq_false_iff_not, decide_eq_true_eq] at this
  omega
theorem up_no (c : UInt8) (h : ¬ ((97 : Int) ≤ c.toNat ∧ (c.toNat : Int) ≤ 122)) : up8 c = c := by
  unfold up8
  rw [if_neg]
  rintro ⟨h1, h2⟩
  have h3 := UInt8.le_iff_toNat_le.1 h1
  have h4 := UInt8.le_iff_toNat_le.1 h2
  exact h ⟨by have : (97 : UInt8).toNat = 97 := rfl; omega, by have : (122 : UInt8).toNat = 122 := rfl; omega⟩
theorem upTo_same (s : ByteArray) (k : Nat) (h : k < s.size) (hn : ¬ ((97 : Int) ≤ s[k].toNat ∧ (s[k].toNat : Int) ≤ 122)) : upTo s.data.toList (k + 1) = upTo s.data.toList k := by
  have hk : k < (upTo s.data.toList k).length := by rw [upTo_length, Oct.length_size]; exact h
  rw [upTo_next s k h, up_no _ hn]
  conv => lhs; rw [← upTo_at s k h (hk := hk)]
  exact List.set_getElem_self hk
end Vr
namespace Go.Proofs.YtelndkglimkfeaaDoor
open Go.RowKit

set_option maxHeartbeats 3200000 in
set_option maxRecDepth 100000 in
theorem order_w (a b : ByteArray) (w : World) (ha : a.size ≤ 9223372036854775807) (hb : b.size ≤ 9223372036854775807) :
    Calls Tryd.prog 7 #[.string a, .string b] w fun e w' => e = .returned (.bool true) ∧ Below w.heap.size w w' := by
  by_cases ga : (300 : Int) < a.size
  · go_enter Tryd.func7, Tryd.ntmps7
    go_wp2_with fail
    refine (awake_w w).mono ?_
    rintro e w1 ⟨rfl, hb1⟩
    go_wp2_with fail
    refine (awake_w w1).mono ?_
    rintro e w2 ⟨rfl, hb2⟩
    go_wp2_with fail
    go_ret
    exact ⟨rfl, hb1.trans (hb2.mono hb1.size)⟩
  by_cases gb : (300 : Int) < b.size
  · go_enter Tryd.func7, Tryd.ntmps7
    go_wp2_with fail
    refine (awake_w w).mono ?_
    rintro e w1 ⟨rfl, hb1⟩
    go_wp2_with fail
    refine (awake_w w1).mono ?_
    rintro e w2 ⟨rfl, hb2⟩
    go_wp2_with fail
    go_ret
    exact ⟨rfl, hb1.trans (hb2.mono hb1.size)⟩
  have za : a.data.toList.length ≤ 300 := by rw [Oct.length_size]; omega
  have zb : b.data.toList.length ≤ 300 := by rw [Oct.length_size]; omega
  have zu : (Vr.upper a.data.toList).length ≤ 300 := by rw [Vr.upper_length]; exact za
  have c2 := fun (x : ByteArray) (lx : List UInt8) (hx : x = str lx) (hz : lx.length ≤ 300) (w1 : World) => Names_w _ [lx, b.data.toList] (w1.alloc (.cells #[.string x, .string b] 9)) (SIn.two w1 x b lx b.data.toList hx (str_of b).symm) (by simp) (fun l hl => by
    rcases List.mem_cons.1 hl with rfl | hl
    · omega
    · rw [List.mem_singleton.1 hl]; omega)
  have c3 := fun (w1 : World) => Names_w _ [b.data.toList, a.data.toList, b.data.toList] (w1.alloc (.cells #[.string b, .string a, .string b] 9)) (SIn.three w1 b a b _ _ _ (str_of b).symm (str_of a).symm (str_of b).symm) (by simp) (fun l hl => by
    rcases List.mem_cons.1 hl with rfl | hl
    · omega
    · rcases List.mem_cons.1 hl with rfl | hl
      · omega
      · rw [List.mem_singleton.1 hl]; omega)
  have cX := c2 a _ (str_of a).symm za
  have cZ := c2 (str (Vr.upper a.data.toList)) _ rfl zu
  rw [Vr.names_twice] at c3
  rw [Vr.names_great] at cZ
  have hnl : (Vr.names [a.data.toList, b.data.toList]).1.length ≤ 100000 := by
    have h1 := Vr.names_length [a.data.toList, b.data.toList]
    have h2 := Vr.splitAll_lens [a.data.toList, b.data.toList] 300 (fun l hl => by
      rcases List.mem_cons.1 hl with rfl | hl
      · exact za
      · rw [List.mem_singleton.1 hl]; exact zb)
    simp only [List.length_cons, List.length_nil] at h2; omega
  generalize Vr.names [a.data.toList, b.data.toList] = NM at *
  obtain ⟨X, t⟩ := NM
  have ba2 : ∀ (w1 : World) (x : ByteArray), Below w1.heap.size w1 (w1.alloc (.cells #[.string x, .string b] 9)) := fun w1 x => (Below.refl _ w1).alloc (Nat.le_refl _) _
  have ba3 : ∀ (w1 : World), Below w1.heap.size w1 (w1.alloc (.cells #[.string b, .string a, .string b] 9)) := fun w1 => (Below.refl _ w1).alloc (Nat.le_refl _) _
  clear c2 za zb zu
  go_enter Tryd.func7, Tryd.ntmps7
  go_wp2_with fail
  refine (awake_w w).mono ?_
  rintro e w1 ⟨rfl, hb1⟩
  go_wp2_with fail
  refine (cX w1).mono ?_
  rintro e w2 ⟨v2, rfl, hB2⟩
  have hc2 := (ba2 w1 a).trans (hB2.2.mono (ba2 w1 a).size)
  have hb2 := hb1.trans (hc2.mono hb1.size)
  have hS2 := hB2.sin
  clear cX hB2 hc2
  go_wp2_with fail
  refine (c3 w2).mono ?_
  rintro e w3 ⟨v3, rfl, hB3⟩
  have hc3 := (ba3 w2).trans (hB3.2.mono (ba3 w2).size)
  have hb3 := hb2.trans (hc3.mono hb2.size)
  have hS3 := hB3.sin
  have hS23 := hS2.later hc3
  clear c3 hB3 hc3 hS2 ba3
  have hcv := run_bytes_of_string (P := Tryd.prog) w3 9 37 5 a Tryd.underlying9 Tryd.underlying37 Tryd.underlying5
  have hR := Row.copy w3 a (grownCap w3 a.size 0 5)
  have hbc : Below w3.heap.size w3 ((w3.drew.alloc (.cells (bytesRow a (grownCap w3 a.size 0 5)) 5 ((bytesRow a (grownCap w3 a.size 0 5)).size, (bytesRow a (grownCap w3 a.size 0 5)).size + 1)))) := (Below.refl _ w3).drew.alloc (Nat.le_refl _) _
  generalize grownCap w3 a.size 0 5 = cap at hcv hR hbc
  generalize ((w3.drew.alloc (.cells (bytesRow a cap) 5 ((bytesRow a cap).size, (bytesRow a cap).size + 1)))) = W4 at hcv hR hbc
  have HS3 := Lib.hid hS3
  have HS23 := Lib.hid hS23
  clear hS3 hS23
  go_wp2_with fail
  clear hcv
  go_loopw [10] (fun i wr => ∃ k : Nat, k ≤ a.size ∧ i = .int .i64 k ∧ Row wr w3.heap.size (Vr.upTo a.data.toList k) ∧ Below w3.heap.size w3 wr) (fun i _ => a.size - (intOf i).toNat)
  case atStart => exact ⟨0, by omega, rfl, by rw [Vr.upTo_zero]; exact hR, hbc⟩
  case round =>
    obtain ⟨k, hk, rfl, hR', hbr⟩ := hrel
    clear hR hbc
    by_cases hlt : k < a.size
    · have hkl : k < (Vr.upTo a.data.toList k).length := by rw [Vr.upTo_length, Oct.length_size]; exact hlt
      obtain ⟨hcell, hfz⟩ := hR'.cell k hkl
      rw [Vr.upTo_at a k hlt] at hcell
      have HN := Lib.hid (Vr.upTo_next a k hlt)
      have hc := (a[k]).toNat_lt
      rcases (show (a[k].toNat : Int) < 97 ∨ ((97 : Int) ≤ a[k].toNat ∧ (a[k].toNat : Int) ≤ 122) ∨ (122 : Int) < a[k].toNat by omega) with hu | ⟨h1, h2⟩ | hu
      · have HL := Lib.hid (Vr.upTo_same a k hlt (by omega))
        go_wp2_with fail
        go_roundw
        case rel => exact ⟨k + 1, by omega, by go_num, by rw [HL.out]; exact hR', hbr⟩
        case measure => simp [intOf]; omega
      · have HS := hR'.set k hkl (Vr.up8 a[k]) _ (Vr.up_yes a[k] h1 h2)
        go_wp2_with fail
        go_roundw
        case rel => exact ⟨k + 1, by omega, by go_num, by rw [HN.out]; exact HS, hbr.setCell (Nat.le_refl _) _⟩
        case measure => simp [intOf]; omega
      · have HL := Lib.hid (Vr.upTo_same a k hlt (by omega))
        go_wp2_with fail
        go_roundw
        case rel => exact ⟨k + 1, by omega, by go_num, by rw [HL.out]; exact hR', hbr⟩
        case measure => simp [intOf]; omega
    · obtain rfl : k = a.size := by omega
      have hsz : (Vr.upTo a.data.toList a.size).length = a.size := by rw [Vr.upTo_length, Oct.length_size]
      have hcv := run_convert_bytes_back (P := Tryd.prog) wr 37 9 5 ⟨w3.heap.size, 0, none⟩ cap (Vr.upTo a.data.toList a.size) Tryd.underlying37 Tryd.underlying5 Tryd.underlying9 (fun j hj => by
        rw [Addr.add_lit, Nat.zero_add]; exact (hR'.cell j hj).1)
      rw [hsz] at hcv
      have hstr : (⟨(Vr.upTo a.data.toList a.size).toArray⟩ : ByteArray) = str (Vr.upper a.data.toList) := by rw [Vr.upTo_all]; rfl
      rw [hstr] at hcv
      have hbw := hb3.trans (hbr.mono hb3.size)
      have hcz := ba2 wr (str (Vr.upper a.data.toList))
      have hS2r := HS23.out.later hbr
      have hS3r := HS3.out.later hbr
      generalize str (Vr.upper a.data.toList) = U at *
      clear hsz hstr hR' ba2
      go_wp2_with fail
      refine (cZ wr).mono ?_
      rintro e w5 ⟨v5, rfl, hB5⟩
      have hc5 := hcz.trans (hB5.2.mono hcz.size)
      have hb5 := hbw.trans (hc5.mono hbw.size)
      have hS25 := hS2r.later hc5
      have hS35 := hS3r.later hc5
      have hS55 := hB5.sin
      have cS := Same_w v2 v3 X X w5 hS25 hS35 (by omega) (by omega)
      rw [sameL_self] at cS
      clear hB5 cZ
      go_wp2_with fail
      refine cS.mono ?_
      rintro e w6 ⟨rfl, m, rfl⟩
      have hd := bdrewN w5 m
      have cS2 := Same_w v2 v5 X X (w5.drewN m) (hS25.later hd) (hS55.later hd) (by omega) (by omega)
      rw [sameL_self] at cS2
      have hb6 := hb5.trans (hd.mono hb5.size)
      clear hd cS
      go_wp2_with fail
      refine cS2.mono ?_
      rintro e w7 ⟨rfl, m2, rfl⟩
      go_wp2_with fail
      go_ret
      exact ⟨by simp, hb5.trans ((bdrewN w5 (m + m2)).mono hb5.size)⟩
end Go.Proofs.YtelndkglimkfeaaDoor
