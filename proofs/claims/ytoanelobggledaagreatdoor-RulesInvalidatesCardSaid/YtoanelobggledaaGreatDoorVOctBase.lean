/- What lies below, out of the texts of the layers under this one: Oct1, Oct10, Oct11, Oct12, Oct13, Oct14, Oct15, Oct16, Oct17, Oct18, Oct19, Oct2, Oct20, Oct3, Oct4, Oct5, Oct6, Oct7, Oct8, Oct9, OctA, OctB, OctMath, OctMathB, OctMathC, OctMathD, OctMathE, OctMathF, OctMathG, OctS. -/
import Derived.Test.YtoanelobggledaaGreatDoorVM1
import Derived.Test.YtoanelobggledaaGreatDoorVSh
import Derived.BigQuiet
import Derived.Deep.QuietTactic
import Derived.Laws.Externs
import Derived.Lib.BufferRead
import Derived.Lib.Hide
import Derived.Lib.UnsafeStr
import Derived.LoopTactic
import Derived.SliceStrings
import Derived.WalkKit
import Derived.WalkLawsBesides
import Derived.WalkSpells
namespace Go.Proofs.YtoanelobggledaaGreatDoor
open Go.RowKit

def str (l : List UInt8) : ByteArray := ⟨l.toArray⟩
theorem str_list (l : List UInt8) : (str l).data.toList = l := by simp [str]
theorem str_of (s : ByteArray) : str s.data.toList = s := by obtain ⟨⟨l⟩⟩ := s; rfl
theorem str_size (l : List UInt8) : (str l).size = l.length := by rw [Lib.size_eq, str_list]
theorem str_inj {a b : List UInt8} (h : str a = str b) : a = b := by rw [← str_list a, h, str_list]
theorem str_toList (l : List UInt8) : (str l).toList = l := by rw [Lib.toList_data, str_list]
theorem bytes_info : (Tryz.prog.info? 5).map (fun i => (i.zero, i.size, i.bytes)) = some (some (.int .u8 0), 1, 1) := by kernel_rfl
def Buf (W w : World) (v : Value) (l : List UInt8) : Prop := w.ownsRow W.heap.size 5 1 v l.length (Lib.byteCells l) ∧ Below W.heap.size W w
theorem Buf.below {W w : World} {v : Value} {l : List UInt8} (h : Buf W w v l) : Below W.heap.size W w := h.2
theorem Buf.nil (W : World) : Buf W W (.slice none 0 0) [] := ⟨World.ownsRow_nil _ _ _ _, Below.refl _ _⟩
theorem Buf.alloc {W w : World} {v : Value} {l : List UInt8} (h : Buf W w v l) (o : Obj) : Buf W (w.alloc o) v l := ⟨h.1.alloc o, h.2.alloc h.2.size o⟩
theorem Buf.drew {W w : World} {v : Value} {l : List UInt8} (h : Buf W w v l) : Buf W w.drew v l := ⟨h.1, h.2.drew⟩
theorem Buf.after {W w w' : World} {v : Value} {l : List UInt8} (h : Buf W w v l) (hb : Below w.heap.size w w') : Buf W w' v l := by
  refine ⟨⟨h.1.1, ?_⟩, h.2.trans (hb.mono h.2.size)⟩
  rcases h.1.2 with h0 | ⟨g, cap, cur, hv, hg, hh, rest⟩
  · exact .inl h0
  · exact .inr ⟨g, cap, cur, hv, hg, by rw [hb.block g (lt_of_block hh)]; exact hh, rest⟩
theorem Buf.one {W w : World} (h : Below W.heap.size W w) (c : UInt8) (n : Int) (hn : n = c.toNat) : Buf W (w.alloc (.cells #[.int .u8 n] 5)) (.slice (some ⟨w.heap.size, 0, none⟩) 1 1) [c] := by
  subst hn
  exact ⟨⟨rfl, .inr ⟨w.heap.size, 1, #[.int .u8 c.toNat], rfl, h.size, heap_alloc_new w _, Nat.le_refl _, by decide, rfl, rfl⟩⟩, h.alloc h.size _⟩
theorem Buf.cells {W w : World} {v : Value} {l : List UInt8} (h : Buf W w v l) : (v = .slice none 0 0 ∧ l = []) ∨ ∃ g cap, v = .slice (some ⟨g, 0, none⟩) l.length cap ∧ ∀ j (hj : j < l.length), w.cell? ⟨g, j, none⟩ = some (.int .u8 (l[j].toNat : Int)) := by
  rcases h.1.2 with ⟨hv, h0⟩ | ⟨g, cap, cur, hv, hg, hh, h1, h2, h3, h4⟩
  · exact .inl ⟨hv, List.eq_nil_of_length_eq_zero h0⟩
  · refine .inr ⟨g, cap, hv, fun j hj => ?_⟩
    have h5 : cur.toList[j]? = some (.int .u8 (l[j].toNat : Int)) := by
      have h6 : (cur.toList.take (l.length * 1))[j]? = (Lib.byteCells l)[j]? := by rw [h4]
      rw [List.getElem?_take_of_lt (by omega)] at h6
      rw [h6]; simp [Lib.byteCells, hj]
    simp only [World.cell?, hh]
    simpa using h5
theorem Buf.string {W w : World} {v : Value} {l : List UInt8} (h : Buf W w v l) : (convert 25 9 v).run Tryz.prog w = .ok (.string (str l)) w := by
  rcases h.cells with ⟨rfl, rfl⟩ | ⟨g, cap, rfl, hc⟩
  · exact Lib.run_convert_nil_bytes w _ _ _ 0 Tryz.underlying25 Tryz.underlying5 Tryz.underlying9
  · exact run_convert_bytes_back w _ _ _ ⟨g, 0, none⟩ cap l Tryz.underlying25 Tryz.underlying5 Tryz.underlying9 (fun j hj => by
      rw [Addr.add_lit, Nat.zero_add]
      exact hc j hj)
theorem app1 {ops : Array Oper} {rest : List Oper} {o : Oper} {a : Act} {Q : Exit → Act → World → Prop} {W w : World} {v : Value} {l : List UInt8} (h : Buf W w v l) (c : UInt8) (hlen : l.length ≤ 100000000)
    (hgd : o.guard = none) (s x : Operand) (ho : o.op = .call { callee := .builtin .append, args := #[s, x], argTypes := #[25, 25] })
    (n : Int) (hn : n = c.toNat) (hs : a.eval s = v) (hx : a.eval x = .slice (some ⟨w.heap.size, 0, none⟩) 1 1)
    (hK : ∀ v' w', Buf W w' v' (l ++ [c]) → wpList Tryz.prog ops Q rest (a.put o.dst v') w') : wpList Tryz.prog ops Q (o :: rest) a (w.alloc (.cells #[.int .u8 n] 5)) := by
  obtain ⟨i0, hi, hz0, hz1, hz2⟩ := info_parts bytes_info
  have hA := h.alloc (.cells #[.int .u8 n] 5)
  refine wpList_append_own _ hgd s x _ ho W.heap.size 5 i0 (.int .u8 0) 1 1 Tryz.underlying25 hi hz0 hz1 hz2 rfl (by decide) v l.length (Lib.byteCells l) hs hA.1 ⟨w.heap.size, 0, none⟩ 1 1 [.int .u8 n] hx rfl ?_ ?_ (by unfold maxLen; omega) (by omega) hA.2.size (fun v' w' h1 h2 _ => ?_)
  · intro j u hj
    match j, hj with
    | 0, hj =>
      simp at hj; subst hj
      show (w.alloc (.cells #[.int .u8 n] 5)).cell? ⟨w.heap.size, 0 + 0, none⟩ = _
      rw [World.cell?_alloc_at _ _ _ _ rfl]; rfl
  · intro u hu; simp at hu; subst hu; rfl
  · refine hK v' w' ⟨?_, hA.2.grown h2 hA.2.size (fun k hk => (hA.1.lt k hk).1)⟩
    have e : Lib.byteCells (l ++ [c]) = Lib.byteCells l ++ [.int .u8 n] := by subst hn; simp [Lib.byteCells]
    rw [e]; simpa using h1
def Row (w : World) (g : Nat) (l : List UInt8) : Prop := ∃ C n, w.heap[g]? = some (.cells C 5 (n, n + 1)) ∧ C.size = n ∧ l.length ≤ n ∧ C.toList.take l.length = Lib.byteCells l
theorem Row.lt {w : World} {g : Nat} {l : List UInt8} (h : Row w g l) : g < w.heap.size := by obtain ⟨C, n, h1, _⟩ := h; exact lt_of_block h1
theorem Row.cell {w : World} {g : Nat} {l : List UInt8} (h : Row w g l) (k : Nat) (hk : k < l.length) : w.cell? ⟨g, k, none⟩ = some (.int .u8 (l[k].toNat : Int)) ∧ w.frozen? ⟨g, k, none⟩ = false := by
  obtain ⟨C, n, h1, h2, h3, h4⟩ := h
  have h5 : C.toList[k]? = some (.int .u8 (l[k].toNat : Int)) := by
    have h6 : (C.toList.take l.length)[k]? = (Lib.byteCells l)[k]? := by rw [h4]
    rw [List.getElem?_take_of_lt hk] at h6
    rw [h6]; simp [Lib.byteCells, hk]
  constructor
  · simp only [World.cell?, h1]; simpa using h5
  · simp only [World.frozen?, h1]; simp; omega
theorem Row.set {w : World} {g : Nat} {l : List UInt8} (h : Row w g l) (k : Nat) (_hk : k < l.length) (c : UInt8) (n : Int) (hn : n = c.toNat) : Row (w.setCell ⟨g, k, none⟩ (.int .u8 n)) g (l.set k c) := by
  subst hn
  have hlt := h.lt
  obtain ⟨C, n, h1, h2, h3, h4⟩ := h
  refine ⟨C.setIfInBounds k (.int .u8 c.toNat), n, ?_, by simp [h2], by simpa using h3, ?_⟩
  · show (w.heap.modify g _)[g]? = _
    have h' : w.heap[g] = .cells C 5 (n, n + 1) := by simpa [Array.getElem?_eq_getElem hlt] using h1
    rw [Array.getElem?_eq_getElem (by simpa using hlt), Array.getElem_modify_self, h']
    rfl
  · rw [List.length_set, Array.toList_setIfInBounds, List.take_set, h4]
    simp [Lib.byteCells]
theorem Row.copy (w : World) (s : ByteArray) (cap : Nat) : Row ((w.drew.alloc (.cells (bytesRow s cap) 5 ((bytesRow s cap).size, (bytesRow s cap).size + 1)))) w.heap.size s.data.toList := by
  refine ⟨bytesRow s cap, _, heap_alloc_new w.drew _, rfl, ?_, ?_⟩
  · simp [bytesRow]
  · simp [bytesRow, Lib.byteCells]
end Go.Proofs.YtoanelobggledaaGreatDoor

namespace Go.Proofs.YtoanelobggledaaGreatDoor
open Go.RowKit

theorem ret_bool {a b : Bool} (h : a = b) : Ending.returned (.bool a) = .returned (.bool b) := by rw [h]
theorem ret_int {k : IntKind} {a b : Int} (h : a = b) : Ending.returned (.int k a) = .returned (.int k b) := by rw [h]
set_option maxHeartbeats 400000 in
theorem inValue_c (c : UInt8) (w : World) :
    Calls Tryz.prog 216 #[.int .u8 c.toNat] w fun e w' => e = .returned (.bool (Oct.plain c)) ∧ w = w' := by
  have hc := c.toNat_lt
  go_enter Tryz.func216, Tryz.ntmps216
  go_wp2
  all_goals go_ret
  all_goals exact ⟨ret_bool (by rw [Oct.plain_int, Bool.eq_iff_iff] <;> first | (simp; done) | (simp; omega)), rfl⟩
set_option maxHeartbeats 400000 in
theorem rBlank_c (c : UInt8) (w : World) :
    Calls Tryz.prog 85 #[.int .u8 c.toNat] w fun e w' => e = .returned (.bool (Oct.blank c)) ∧ w = w' := by
  have hc := c.toNat_lt
  go_enter Tryz.func85, Tryz.ntmps85
  go_wp2
  all_goals go_ret
  all_goals exact ⟨ret_bool (by rw [Oct.blank_int, Bool.eq_iff_iff] <;> first | (simp; done) | (simp; omega)), rfl⟩
set_option maxHeartbeats 400000 in
theorem worth_c (c : UInt8) (w : World) :
    Calls Tryz.prog 241 #[.int .u8 c.toNat] w fun e w' => e = .returned (.int .i64 (Oct.worth c)) ∧ w = w' := by
  have hc := c.toNat_lt
  go_enter Tryz.func241, Tryz.ntmps241
  go_wp2
  all_goals go_ret
  all_goals exact ⟨ret_int (by unfold Oct.worth; (repeat' split) <;> omega), rfl⟩
set_option maxHeartbeats 400000 in
theorem rDigit_c (c : UInt8) (w : World) :
    Calls Tryz.prog 190 #[.int .u8 c.toNat] w fun e w' => e = .returned (.int .i64 (Oct.digit c)) ∧ w = w' := by
  have hc := c.toNat_lt
  go_enter Tryz.func190, Tryz.ntmps190
  go_wp2
  all_goals go_ret
  all_goals exact ⟨ret_int (by unfold Oct.digit; (repeat' split) <;> omega), rfl⟩
theorem marks_at (j : Nat) (h : j < 15) (w : World) (T : TypeId) : (w.alloc (.cells #[.int .u8 33, .int .u8 35, .int .u8 36, .int .u8 37, .int .u8 38, .int .u8 39, .int .u8 42, .int .u8 43, .int .u8 45, .int .u8 46, .int .u8 94, .int .u8 95, .int .u8 96, .int .u8 124, .int .u8 126] T)).cell? ⟨w.heap.size, j, none⟩ = some (.int .u8 (Oct.marks.getD j 0).toNat) := by
  rw [World.cell?_alloc_at _ _ _ _ rfl]
  rcases j with _ | _ | _ | _ | _ | _ | _ | _ | _ | _ | _ | _ | _ | _ | _ | j
  all_goals first | rfl | omega
set_option maxHeartbeats 800000 in
theorem rTchar_c (c : UInt8) (w : World) :
    Calls Tryz.prog 108 #[.int .u8 c.toNat] w fun e w' => e = .returned (.bool (Oct.tch c)) ∧ Below w.heap.size w w' := by
  have hc := c.toNat_lt
  by_cases ha : Oct.alnum c = true
  · have ht : Oct.tch c = true := by unfold Oct.tch; rw [ha]; rfl
    rw [ht]; clear ht
    rw [Oct.alnum_int] at ha
    simp only [Bool.or_eq_true, Bool.and_eq_true, decide_eq_true_eq] at ha
    rcases ha with (⟨h1, h2⟩ | ⟨h1, h2⟩) | ⟨h1, h2⟩
    all_goals
      go_enter Tryz.func108, Tryz.ntmps108
      go_wp2
      go_ret
      exact ⟨rfl, Below.refl _ _⟩
  · have HA := Lib.hid (show Oct.alnum c = false by simpa using ha)
    rw [Oct.alnum_int] at ha
    have hm := fun j h => marks_at j h w 5
    have hr : ((c.toNat : Int) < 48) ∨ (57 < (c.toNat : Int) ∧ (c.toNat : Int) < 65) ∨ (90 < (c.toNat : Int) ∧ (c.toNat : Int) < 97) ∨ (122 < (c.toNat : Int)) := by
      simp at ha; omega
    clear ha
    rcases hr with h1 | ⟨h1, h2⟩ | ⟨h1, h2⟩ | h1
    all_goals
      go_enter Tryz.func108, Tryz.ntmps108
      go_wp2
      go_loop [4] (fun i => ∃ k : Nat, k ≤ 15 ∧ i = .int .i64 k ∧ ∀ j, j < k → Oct.marks.getD j 0 ≠ c) (fun i => 15 - (intOf i).toNat)
      case atStart => exact ⟨0, by omega, rfl, fun j hj => by omega⟩
      case round =>
        obtain ⟨k, hk, rfl, hno⟩ := hrel
        have HN := Lib.hid hno
        clear hno
        by_cases hlt : k < 15
        · have hcell := hm k hlt
          clear hm
          by_cases heq : Oct.marks.getD k 0 = c
          · rw [heq] at hcell
            go_wp2
            go_ret
            exact ⟨ret_bool (Oct.marks_hit hlt heq), (Below.refl _ _).alloc (Nat.le_refl _) _⟩
          · have hne : (((Oct.marks.getD k 0).toNat : Int) == (c.toNat : Int)) = false := by
              rw [← Oct.nat8]; simpa using heq
            obtain ⟨x, hx⟩ : ∃ x, x = (Oct.marks.getD k 0).toNat := ⟨_, rfl⟩
            rw [← hx] at hcell hne
            have HX := Lib.hid hx
            clear hx
            go_wp2
            go_round
            case rel => exact ⟨k + 1, by omega, by go_num, fun j hj => by
              by_cases hjk : j = k
              · rw [hjk]; exact heq
              · exact HN.out j (by omega)⟩
            case measure => simp [intOf]; omega
        · clear hm
          go_wp2
          go_ret
          exact ⟨ret_bool (Oct.marks_miss HA.out (fun j hj => HN.out j (by omega))), (Below.refl _ _).alloc (Nat.le_refl _) _⟩
set_option maxHeartbeats 800000 in
theorem inToken_c (c : UInt8) (w : World) :
    Calls Tryz.prog 139 #[.int .u8 c.toNat] w fun e w' => e = .returned (.bool (Oct.tch c)) ∧ w = w' := by
  have hc := c.toNat_lt
  by_cases ha : Oct.alnum c = true
  · have ht : Oct.tch c = true := by unfold Oct.tch; rw [ha]; rfl
    rw [ht]; clear ht
    rw [Oct.alnum_int] at ha
    simp only [Bool.or_eq_true, Bool.and_eq_true, decide_eq_true_eq] at ha
    rcases ha with (⟨h1, h2⟩ | ⟨h1, h2⟩) | ⟨h1, h2⟩
    all_goals
      go_enter Tryz.func139, Tryz.ntmps139
      go_wp2
      go_ret
      exact ⟨rfl, rfl⟩
  · have HX := Lib.hid (Oct.marks_ix (c := c) (by simpa using ha))
    rw [Oct.alnum_int] at ha
    have hr : ((c.toNat : Int) < 48) ∨ (57 < (c.toNat : Int) ∧ (c.toNat : Int) < 65) ∨ (90 < (c.toNat : Int) ∧ (c.toNat : Int) < 97) ∨ (122 < (c.toNat : Int)) := by
      simp at ha; omega
    clear ha
    rcases hr with h1 | ⟨h1, h2⟩ | ⟨h1, h2⟩ | h1
    all_goals
      go_enter Tryz.func139, Tryz.ntmps139
      go_wp2_with (go_at_call 177; refine (Tryz.strings_IndexByte _ _ _).mono ?_; rintro e w' ⟨rfl, rfl⟩)
      go_ret
      exact ⟨ret_bool (by rw [HX.out] <;> first | rfl | (simp; intro h; omega)), rfl⟩
end Go.Proofs.YtoanelobggledaaGreatDoor

namespace Go.Proofs.YtoanelobggledaaGreatDoor
open Go.RowKit

set_option maxHeartbeats 400000 in
theorem every_tok (s : ByteArray) (w : World) (hs : s.size ≤ 1000000) :
    Calls Tryz.prog 138 #[.string s, .func (.func 139) #[] #[]] w fun e w' => e = .returned (.bool (Oct.allOf Oct.tch s.data.toList)) ∧ w = w' := by
  go_enter Tryz.func138, Tryz.ntmps138
  go_wp2_with fail
  go_loop [8] (fun i => ∃ k : Nat, k ≤ s.size ∧ i = .int .i64 k ∧ Hid (Oct.allOf Oct.tch (s.data.toList.take k) = true)) (fun i => s.size - (intOf i).toNat)
  case atStart => exact ⟨0, by omega, rfl, Lib.hid rfl⟩
  case round =>
    obtain ⟨k, hk, rfl, HA⟩ := hrel
    by_cases hlt : k < s.size
    · by_cases hp : Oct.tch s[k] = true
      · have HN := Lib.hid (Oct.all_snoc Oct.tch s k hlt)
        go_wp2_with (go_at_call 139; refine (inToken_c _ _).mono ?_; rintro e w' ⟨rfl, rfl⟩)
        go_round
        case rel => exact ⟨k + 1, by omega, by go_num, Lib.hid (by rw [HN.out, HA.out, hp]; rfl)⟩
        case measure => simp [intOf]; omega
      · have hp' : Oct.tch s[k] = false := by simpa using hp
        clear hp
        have HN := Lib.hid (Oct.all_miss Oct.tch s k hlt hp')
        go_wp2_with (go_at_call 139; refine (inToken_c _ _).mono ?_; rintro e w' ⟨rfl, rfl⟩)
        go_ret
        exact ⟨ret_bool HN.out.symm, rfl⟩
    · have HE := Lib.hid (Oct.take_all s k (by omega))
      go_wp2_with fail
      go_ret
      exact ⟨ret_bool (by rw [← HA.out, HE.out]), rfl⟩
set_option maxHeartbeats 400000 in
theorem Token_s (s : ByteArray) (w : World) (hs : s.size ≤ 1000000) :
    Calls Tryz.prog 102 #[.string s] w fun e w' => e = .returned (.bool (Oct.token s.data.toList)) ∧ w = w' := by
  have HT := Lib.hid (Oct.token_str s)
  go_enter Tryz.func102, Tryz.ntmps102
  go_wp2_with (go_at_call 138; refine (every_tok _ _ hs).mono ?_; rintro e w' ⟨rfl, rfl⟩)
  all_goals go_ret
  all_goals exact ⟨ret_bool (by rw [HT.out] <;> first | rfl | simp [*]), rfl⟩
end Go.Proofs.YtoanelobggledaaGreatDoor

namespace Go.Proofs.YtoanelobggledaaGreatDoor
open Go.RowKit

theorem ret_str {a b : ByteArray} (h : a = b) : Ending.returned (.string a) = .returned (.string b) := by rw [h]
theorem strings_Trim_s (s : ByteArray) (w : World) (hs : s.size ≤ 1000000) :
    Calls Tryz.prog 146 #[.string s, .string ⟨#[32, 9]⟩] w fun e w' => e = .returned (.string (str (Oct.trim s.data.toList))) ∧ Below w.heap.size w w' :=
  Any.strings_Trim_laid Tryz.lays160 (by kernel_rfl) s ⟨#[32, 9]⟩ w (by omega) (by decide) (ascii_of_all (by decide))
set_option maxHeartbeats 400000 in
theorem Clone_s (s : ByteArray) (w : World) (hs : s.size ≤ 1000000) :
    Calls Tryz.prog 61 #[.string s] w fun e w' => e = .returned (.string s) ∧ Below w.heap.size w w' := by
  go_enter Tryz.func61, Tryz.ntmps61
  go_wp2_with (go_at_call 90; refine (Tryz.stringslite_Clone _ _ (by omega)).mono ?_; rintro e w' ⟨rfl, hb⟩)
  go_ret
  exact ⟨rfl, by assumption⟩
set_option maxHeartbeats 400000 in
theorem Trim_s (s : ByteArray) (w : World) (hs : s.size ≤ 1000000) :
    Calls Tryz.prog 112 #[.string s] w fun e w' => e = .returned (.string (str (Oct.trim s.data.toList))) ∧ Below w.heap.size w w' := by
  have hts : (str (Oct.trim s.data.toList)).size ≤ 1000000 := by
    rw [str_size]; have := Oct.trim_len s.data.toList; rw [Oct.length_size] at this; omega
  go_enter Tryz.func112, Tryz.ntmps112
  go_wp2_with fail
  refine (strings_Trim_s s w hs).mono ?_
  rintro e w1 ⟨rfl, hb1⟩
  go_wp2_with fail
  refine (Clone_s _ w1 hts).mono ?_
  rintro e w2 ⟨rfl, hb2⟩
  go_wp2_with fail
  go_ret
  exact ⟨rfl, hb1.trans (hb2.mono hb1.size)⟩
set_option maxHeartbeats 400000 in
theorem rTrim_s (s : ByteArray) (w : World) (hs : s.size ≤ 1000000) :
    Calls Tryz.prog 53 #[.string s] w fun e w' => e = .returned (.string (str (Oct.trim s.data.toList))) ∧ w = w' := by
  go_enter Tryz.func53, Tryz.ntmps53
  go_wp2_with fail
  go_loop [0] (fun v => ∃ t : ByteArray, t.size ≤ s.size ∧ v = .string t ∧ Hid (Oct.dropL t.data.toList = Oct.dropL s.data.toList)) (fun v => Lib.strSize v)
  case atStart => exact ⟨s, by omega, rfl, Lib.hid rfl⟩
  case round =>
    obtain ⟨t, ht, rfl, HD⟩ := hrel
    by_cases h0 : 0 < t.size
    · by_cases hp : Oct.blank t[0] = true
      · have HN := Lib.hid (Oct.dropL_first t h0 hp)
        go_wp2_with (go_at_call 85; refine (rBlank_c _ _).mono ?_; rintro e w' ⟨rfl, rfl⟩)
        go_round
        case rel => exact ⟨t.extract 1 t.size, by simp; omega, rfl, Lib.hid (by rw [HN.out]; exact HD.out)⟩
        case measure => simp [Lib.strSize]; omega
      · have hp' : Oct.blank t[0] = false := by simpa using hp
        clear hp
        have HS := Lib.hid (Oct.dropL_stop t h0 hp')
        go_wp2_with (go_at_call 85; refine (rBlank_c _ _).mono ?_; rintro e w' ⟨rfl, rfl⟩)
        go_loop [0] (fun v => ∃ u : ByteArray, u.size ≤ s.size ∧ v = .string u ∧ Hid (Oct.dropR u.data.toList = Oct.dropR t.data.toList)) (fun v => Lib.strSize v)
        case atStart => exact ⟨t, by omega, rfl, Lib.hid rfl⟩
        case round =>
          obtain ⟨u, hu, rfl, HR⟩ := hrel
          by_cases g0 : 0 < u.size
          · have hi1 : 0 ≤ (u.size : Int) - 1 := by omega
            have hi2 : (u.size : Int) - 1 < u.size := by omega
            by_cases hq : Oct.blank u[u.size - 1] = true
            · have HN := Lib.hid (Oct.dropR_last' u g0 hq)
              go_wp2_with (go_at_call 85; refine (rBlank_c _ _).mono ?_; rintro e w' ⟨rfl, rfl⟩)
              go_round
              case rel => exact ⟨u.extract 0 (u.size - 1), by simp; omega, rfl, Lib.hid (by rw [HN.out]; exact HR.out)⟩
              case measure => simp [Lib.strSize]; omega
            · have hq' : Oct.blank u[u.size - 1] = false := by simpa using hq
              clear hq
              have HN := Lib.hid (Oct.dropR_stop u g0 hq')
              go_wp2_with (go_at_call 85; refine (rBlank_c _ _).mono ?_; rintro e w' ⟨rfl, rfl⟩)
              go_ret
              exact ⟨ret_str (by rw [Oct.trim_eq', ← HD.out, HS.out, ← HR.out, HN.out, str_of]), rfl⟩
          · have HN := Lib.hid (Oct.empty_list u g0)
            go_wp2_with fail
            go_ret
            exact ⟨ret_str (by rw [Oct.trim_eq', ← HD.out, HS.out, ← HR.out, HN.out, Oct.dropR_nil, ← HN.out, str_of]), rfl⟩
    · have HN := Lib.hid (Oct.empty_list t h0)
      have hz : t.size = 0 := by omega
      obtain rfl : t = ByteArray.empty := Oct.size_zero t hz
      go_wp2_with fail
      refine wp_loop_rounds 1 ?_
      rw [rounds_succ]
      go_wp2_with fail
      go_ret
      exact ⟨ret_str (by rw [Oct.trim_eq', ← HD.out]; rfl), rfl⟩
end Go.Proofs.YtoanelobggledaaGreatDoor

namespace Go.Proofs.YtoanelobggledaaGreatDoor
open Go.RowKit

set_option maxHeartbeats 800000 in
set_option maxRecDepth 100000 in
theorem rLower_s (s : ByteArray) (w : World) (hs : s.size ≤ 1000000) :
    Calls Tryz.prog 47 #[.string s] w fun e w' => e = .returned (.string (str (Oct.lower s.data.toList))) ∧ Below w.heap.size w w' := by
  go_enter Tryz.func47, Tryz.ntmps47
  go_wp2_with fail
  go_loopw [3, 4, 5] (fun v i _ wr => ∃ k : Nat, k ≤ s.size ∧ i = .int .i64 k ∧ Buf w wr v (Oct.lower (s.data.toList.take k))) (fun _ i _ _ => s.size - (intOf i).toNat)
  case atStart => exact ⟨0, by omega, rfl, Buf.nil w⟩
  case round =>
    obtain ⟨k, hk, rfl, hB⟩ := hrel
    have hlen : (Oct.lower (s.data.toList.take k)).length ≤ 100000000 := by
      rw [Oct.lower_length, List.length_take]; omega
    by_cases hlt : k < s.size
    · have HN := Lib.hid (Oct.lower_snoc s k hlt)
      have hc := (s[k]).toNat_lt
      rcases (show (s[k].toNat : Int) < 65 ∨ ((65 : Int) ≤ s[k].toNat ∧ (s[k].toNat : Int) ≤ 90) ∨ (90 : Int) < s[k].toNat by omega) with hu | ⟨h1, h2⟩ | hu
      · go_wp2_with (at_builtin; refine app1 hB (Oct.low s[k]) hlen rfl _ _ rfl _ (Oct.low_no _ (by omega)) rfl rfl ?_; intro v' w' hB')
        go_roundw
        case rel => exact ⟨k + 1, by omega, by go_num, by rw [HN.out]; exact hB'⟩
        case measure => simp [intOf]; omega
      · go_wp2_with (at_builtin; refine app1 hB (Oct.low s[k]) hlen rfl _ _ rfl _ (Oct.low_yes _ h1 h2) rfl rfl ?_; intro v' w' hB')
        go_roundw
        case rel => exact ⟨k + 1, by omega, by go_num, by rw [HN.out]; exact hB'⟩
        case measure => simp [intOf]; omega
      · go_wp2_with (at_builtin; refine app1 hB (Oct.low s[k]) hlen rfl _ _ rfl _ (Oct.low_no _ (by omega)) rfl rfl ?_; intro v' w' hB')
        go_roundw
        case rel => exact ⟨k + 1, by omega, by go_num, by rw [HN.out]; exact hB'⟩
        case measure => simp [intOf]; omega
    · have HE := Lib.hid (Oct.take_all s k (by omega))
      have hcv := hB.string
      go_wp2_with fail
      go_ret
      exact ⟨ret_str (by rw [HE.out]), hB.below⟩
set_option maxHeartbeats 800000 in
set_option maxRecDepth 100000 in
theorem Lower_s (s : ByteArray) (w : World) (hs : s.size ≤ 1000000) :
    Calls Tryz.prog 101 #[.string s] w fun e w' => e = .returned (.string (str (Oct.lower s.data.toList))) ∧ Below w.heap.size w w' := by
  have hcv := run_bytes_of_string (P := Tryz.prog) w 9 25 5 s Tryz.underlying9 Tryz.underlying25 Tryz.underlying5
  have hR := Row.copy w s (grownCap w s.size 0 5)
  have hb1 : Below w.heap.size w ((w.drew.alloc (.cells (bytesRow s (grownCap w s.size 0 5)) 5 ((bytesRow s (grownCap w s.size 0 5)).size, (bytesRow s (grownCap w s.size 0 5)).size + 1)))) := (Below.refl _ w).drew.alloc (Nat.le_refl _) _
  generalize grownCap w s.size 0 5 = cap at hcv hR hb1
  generalize ((w.drew.alloc (.cells (bytesRow s cap) 5 ((bytesRow s cap).size, (bytesRow s cap).size + 1)))) = W1 at hcv hR hb1
  go_enter Tryz.func101, Tryz.ntmps101
  go_wp2_with fail
  clear hcv
  go_loopw [4, 9] (fun _ i wr => ∃ k : Nat, k ≤ s.size ∧ i = .int .i64 k ∧ Row wr w.heap.size (Oct.lowTo s.data.toList k) ∧ Below w.heap.size w wr) (fun _ i _ => s.size - (intOf i).toNat)
  case atStart => exact ⟨0, by omega, rfl, by rw [Oct.lowTo_zero]; exact hR, hb1⟩
  case round =>
    obtain ⟨k, hk, rfl, hR', hb⟩ := hrel
    clear hR hb1
    by_cases hlt : k < s.size
    · have hkl : k < (Oct.lowTo s.data.toList k).length := by rw [Oct.lowTo_length, Oct.length_size]; exact hlt
      obtain ⟨hcell, hfz⟩ := hR'.cell k hkl
      rw [Oct.lowTo_at s k hlt] at hcell
      have HN := Lib.hid (Oct.lowTo_next s k hlt)
      have hc := (s[k]).toNat_lt
      rcases (show (s[k].toNat : Int) < 65 ∨ ((65 : Int) ≤ s[k].toNat ∧ (s[k].toNat : Int) ≤ 90) ∨ (90 : Int) < s[k].toNat by omega) with hu | ⟨h1, h2⟩ | hu
      · have HL := Lib.hid (Oct.lowTo_same s k hlt (by omega))
        go_wp2_with fail
        go_roundw
        case rel => exact ⟨k + 1, by omega, by go_num, by rw [HL.out]; exact hR', hb⟩
        case measure => simp [intOf]; omega
      · have HS := hR'.set k hkl (Oct.low s[k]) _ (Oct.low_yes s[k] h1 h2)
        go_wp2_with fail
        go_roundw
        case rel => exact ⟨k + 1, by omega, by go_num, by rw [HN.out]; exact HS, hb.setCell (Nat.le_refl _) _⟩
        case measure => simp [intOf]; omega
      · have HL := Lib.hid (Oct.lowTo_same s k hlt (by omega))
        go_wp2_with fail
        go_roundw
        case rel => exact ⟨k + 1, by omega, by go_num, by rw [HL.out]; exact hR', hb⟩
        case measure => simp [intOf]; omega
    · obtain rfl : k = s.size := by omega
      have hsz : (Oct.lowTo s.data.toList s.size).length = s.size := by rw [Oct.lowTo_length, Oct.length_size]
      have hcv := run_convert_bytes_back (P := Tryz.prog) wr 25 9 5 ⟨w.heap.size, 0, none⟩ cap (Oct.lowTo s.data.toList s.size) Tryz.underlying25 Tryz.underlying5 Tryz.underlying9 (fun j hj => by
        rw [Addr.add_lit, Nat.zero_add]; exact (hR'.cell j hj).1)
      rw [hsz] at hcv
      clear hsz
      go_wp2_with fail
      go_ret
      exact ⟨ret_str (by rw [Oct.lowTo_all]; rfl), hb⟩
end Go.Proofs.YtoanelobggledaaGreatDoor

namespace Go.Proofs.YtoanelobggledaaGreatDoor
open Go.RowKit

def unqRes : Option (List UInt8 × Nat) → Value
  | some (t, n) => .tuple #[.string (str t), .int .i64 n, .int .i64 0]
  | none => .tuple #[.string ⟨#[]⟩, .int .i64 0, .int .i64 10]
theorem ret_none {r : Option (List UInt8 × Nat)} (h : r = none) : Ending.returned (.tuple #[.string ⟨#[]⟩, .int .i64 0, .int .i64 10]) = .returned (unqRes r) := by rw [h]; rfl
theorem ret_some {r : Option (List UInt8 × Nat)} {t : List UInt8} {n : Nat} {k : Int} (h : r = some (t, n)) (hk : k = n) : Ending.returned (.tuple #[.string (str t), .int .i64 k, .int .i64 0]) = .returned (unqRes r) := by rw [h, hk]; rfl
set_option maxHeartbeats 1600000 in
set_option maxRecDepth 100000 in
theorem Unquote_s (s : ByteArray) (w : World) (hs : s.size ≤ 1000000) :
    Calls Tryz.prog 175 #[.string s] w fun e w' => e = .returned (unqRes (Oct.unquote s.data.toList)) ∧ Below w.heap.size w w' := by
  by_cases h0 : 0 < s.size
  case neg =>
    have HU := Lib.hid (Oct.unquote_not s h0)
    have hz0 : s.size = 0 := by omega
    obtain rfl : s = ByteArray.empty := Oct.size_zero s hz0
    go_enter Tryz.func175, Tryz.ntmps175
    go_wp2_with fail
    go_ret3
    exact ⟨ret_none HU.out, Below.refl _ _⟩
  have hne' : ¬ s = ByteArray.empty := fun e => by rw [e] at h0; exact absurd h0 (by decide)
  have hne : s.toList.isEmpty = false := Oct.nonempty s h0
  by_cases h34 : (s[0].toNat : Int) = 34
  case neg =>
    have HU := Lib.hid (Oct.unquote_not' s h0 h34)
    have b1 : ((s[0].toNat : Int) == 34) = false := beq_eq_false_iff_ne.2 h34
    have b2 : ((s[0].toNat : Int) != 34) = true := by rw [bne, b1]; rfl
    clear h34
    go_enter Tryz.func175, Tryz.ntmps175
    go_wp2_with fail
    go_ret3
    exact ⟨ret_none HU.out, Below.refl _ _⟩
  have HU := Lib.hid (Oct.unquote_at s h0 h34)
  go_enter Tryz.func175, Tryz.ntmps175
  go_wp2_with fail
  go_loopw [5, 6, 19] (fun v x i wr => ∃ (k : Nat) (e : Bool) (acc : List UInt8), k ≤ s.size - 1 ∧ i = .int .i64 k ∧ x = .bool e ∧ acc.length ≤ k ∧ Buf w wr v acc ∧ Hid (Oct.unquote s.data.toList = Oct.unqAt acc (k + 1) e (s.data.toList.drop (k + 1)))) (fun _ _ i _ => s.size - 1 - (intOf i).toNat)
  case atStart => exact ⟨0, false, [], by omega, rfl, rfl, by simp, Buf.nil w, HU⟩
  case round =>
    obtain ⟨k, e, acc, hk, rfl, rfl, hlen, hB, HV⟩ := hrel
    clear HU
    by_cases hlt : k + 1 < s.size
    · have hc := (s[k+1]).toNat_lt
      have HD := Lib.hid (Oct.drop_cons s (k + 1) hlt)
      have hlen1 : acc.length ≤ 100000000 := by omega
      by_cases hp : Oct.plain s[k+1] = true
      case neg =>
        have hp' : Oct.plain s[k+1] = false := by simpa using hp
        clear hp
        have HR : Hid (Oct.unquote s.data.toList = none) := by rw [HV.out, HD.out, Oct.unqAt_bad _ _ _ _ _ hp']; rfl
        go_wp2_with (go_at_call 216; refine (inValue_c _ _).mono ?_; rintro e w' ⟨rfl, rfl⟩)
        go_ret3
        exact ⟨ret_none HR.out, hB.below⟩
      cases e with
      | true =>
        have HN : Hid (Oct.unquote s.data.toList = Oct.unqAt (acc ++ [s[k+1]]) (k + 1 + 1) false (s.data.toList.drop (k + 1 + 1))) := by
          rw [HV.out, HD.out, Oct.unqAt_esc _ _ _ _ hp]; rfl
        go_wp2_with (first | (go_at_call 216; refine (inValue_c _ _).mono ?_; rintro e w' ⟨rfl, rfl⟩) | (at_builtin; refine app1 hB s[k+1] hlen1 rfl (.tmp 36) (.tmp 38) rfl _ rfl rfl rfl ?_; intro v1 w1 hB1))
        go_roundw
        case rel => exact ⟨k + 1, false, acc ++ [s[k+1]], by omega, by go_num, rfl, by simp; omega, hB1, HN⟩
        case measure => simp [intOf]; omega
      | false =>
        by_cases h92 : (s[k+1].toNat : Int) = 92
        · have HN : Hid (Oct.unquote s.data.toList = Oct.unqAt acc (k + 1 + 1) true (s.data.toList.drop (k + 1 + 1))) := by
            rw [HV.out, HD.out, show s[k+1] = 92 from UInt8.toNat_inj.1 (by show _ = 92; omega), Oct.unqAt_mark]; rfl
          go_wp2_with (go_at_call 216; refine (inValue_c 92 _).mono ?_; rw [show Oct.plain 92 = true from rfl]; rintro e w' ⟨rfl, rfl⟩)
          go_roundw
          case rel => exact ⟨k + 1, true, acc, by omega, by go_num, rfl, by omega, hB, HN⟩
          case measure => simp [intOf]; omega
        by_cases h34' : (s[k+1].toNat : Int) = 34
        · have HR : Hid (Oct.unquote s.data.toList = some (acc, k + 1 + 1)) := by
            rw [HV.out, HD.out, show s[k+1] = 34 from UInt8.toNat_inj.1 (by show _ = 34; omega), Oct.unqAt_end]; rfl
          have hcv := hB.string
          go_wp2_with (go_at_call 216; refine (inValue_c 34 _).mono ?_; rw [show Oct.plain 34 = true from rfl]; rintro e w' ⟨rfl, rfl⟩)
          go_ret3
          exact ⟨ret_some HR.out (by omega), hB.below⟩
        · have HN : Hid (Oct.unquote s.data.toList = Oct.unqAt (acc ++ [s[k+1]]) (k + 1 + 1) false (s.data.toList.drop (k + 1 + 1))) := by
            rw [HV.out, HD.out, Oct.unqAt_plain _ _ _ _ hp (fun e => h92 (by rw [e]; rfl)) (fun e => h34' (by rw [e]; rfl))]; rfl
          have b1 : ((s[k+1].toNat : Int) == 34) = false := beq_eq_false_iff_ne.2 h34'
          have b2 : ((s[k+1].toNat : Int) == 92) = false := beq_eq_false_iff_ne.2 h92
          clear h34' h92
          go_wp2_with (first | (go_at_call 216; refine (inValue_c _ _).mono ?_; rintro e w' ⟨rfl, rfl⟩) | (at_builtin; refine app1 hB s[k+1] hlen1 rfl (.tmp 26) (.tmp 28) rfl _ rfl rfl rfl ?_; intro v1 w1 hB1))
          go_roundw
          case rel => exact ⟨k + 1, false, acc ++ [s[k+1]], by omega, by go_num, rfl, by simp; omega, hB1, HN⟩
          case measure => simp [intOf]; omega
    · have HE : Hid (s.data.toList.drop (k + 1) = []) := List.drop_of_length_le (by rw [Oct.length_size]; omega)
      have HR : Hid (Oct.unquote s.data.toList = none) := by rw [HV.out, HE.out, Oct.unqAt_nil]; rfl
      go_wp2_with fail
      go_ret3
      exact ⟨ret_none HR.out, hB.below⟩
end Go.Proofs.YtoanelobggledaaGreatDoor

namespace Go.Proofs.YtoanelobggledaaGreatDoor
open Go.RowKit

theorem worth_q (c : UInt8) (w : World) (n : Nat) : Calls Tryz.prog 241 #[.int .u8 c.toNat] (w.drewN n) fun e w' => e = .returned (.int .i64 (Oct.worth c)) ∧ ∃ m, w' = w.drewN m :=
  (worth_c c _).mono (by rintro e w' ⟨rfl, rfl⟩; exact ⟨rfl, n, rfl⟩)
set_option maxHeartbeats 400000 in
theorem digit_c (c : UInt8) (b g : Nat) (B : Int) (hB : B = b) (w : World) (_hb : b ≤ 16) (hc : w.cell? ⟨g, 0, none⟩ = some (.int .i64 B)) :
    Calls Tryz.prog 240 #[.int .u8 c.toNat, .pointer (some ⟨g, 0, none⟩)] w fun e w' => e = .returned (.bool (Oct.dig b c)) ∧ ∃ m, w' = w.drewN m := by
  have hw := Oct.worth_le c
  subst hB
  go_enter Tryz.func240, Tryz.ntmps240
  go_wp2_with fail
  go_quiet ((go_at_call 241; exact worth_q _ _ _))
  go_wp2_with fail
  go_ret
  exact ⟨rfl, nq, rfl⟩
set_option maxHeartbeats 400000 in
theorem every_dig (s : ByteArray) (b g : Nat) (B : Int) (hB : B = b) (w : World) (hs : s.size ≤ 1000000) (hb : b ≤ 16) (hc : w.cell? ⟨g, 0, none⟩ = some (.int .i64 B)) :
    Calls Tryz.prog 138 #[.string s, .func (.func 240) #[] #[.pointer (some ⟨g, 0, none⟩)]] w fun e w' => e = .returned (.bool (Oct.allOf (Oct.dig b) s.data.toList)) ∧ ∃ m, w' = w.drewN m := by
  have HB := Lib.hid hB
  clear hB
  go_enter Tryz.func138, Tryz.ntmps138
  go_wp2_with fail
  go_loopw [8] (fun i wr => ∃ k m : Nat, k ≤ s.size ∧ i = .int .i64 k ∧ Hid (Oct.allOf (Oct.dig b) (s.data.toList.take k) = true) ∧ wr = w.drewN m) (fun i _ => s.size - (intOf i).toNat)
  case atStart => exact ⟨0, 0, by omega, rfl, Lib.hid rfl, rfl⟩
  case round =>
    obtain ⟨k, m, hk, rfl, HA, rfl⟩ := hrel
    by_cases hlt : k < s.size
    · by_cases hp : Oct.dig b s[k] = true
      · have HN := Lib.hid (Oct.all_snoc (Oct.dig b) s k hlt)
        go_wp2_with (go_at_call 240; refine (digit_c _ b g B HB.out _ hb (by simpa using hc)).mono ?_; rintro e w' ⟨rfl, m', rfl⟩)
        go_roundw
        case rel => exact ⟨k + 1, _, by omega, by go_num, Lib.hid (by rw [HN.out, HA.out, hp]; rfl), rfl⟩
        case measure => simp [intOf]; omega
      · have hp' : Oct.dig b s[k] = false := by simpa using hp
        clear hp
        have HN := Lib.hid (Oct.all_miss (Oct.dig b) s k hlt hp')
        go_wp2_with (go_at_call 240; refine (digit_c _ b g B HB.out _ hb (by simpa using hc)).mono ?_; rintro e w' ⟨rfl, m', rfl⟩)
        go_ret
        exact ⟨ret_bool HN.out.symm, _, rfl⟩
    · have HE := Lib.hid (Oct.take_all s k (by omega))
      go_wp2_with fail
      go_ret
      exact ⟨ret_bool (by rw [← HA.out, HE.out]), m, rfl⟩
theorem ret_pair {r : Int × Int} {a b : Int} (h : r = (a, b)) : Ending.returned (.tuple #[.int .i64 a, .int .i64 b]) = .returned (.tuple #[.int .i64 r.1, .int .i64 r.2]) := by rw [h]
set_option maxHeartbeats 1600000 in
set_option maxRecDepth 100000 in
theorem reckon10 (s : ByteArray) (most : Int) (w : World) (hs : s.size ≤ 1000000) (hm1 : -9223372036854775808 ≤ most) (hm2 : most ≤ 9223372036854775807) :
    Calls Tryz.prog 217 #[.string s, .int .i64 10, .int .i64 most] w fun e w' => e = .returned (.tuple #[.int .i64 (Oct.number 10 most s.data.toList).1, .int .i64 (Oct.number 10 most s.data.toList).2]) ∧ Below w.heap.size w w' := by
  have hmf : ∀ (fn : Fn) (first cap : Array Value) (w : World), (Instr.makeFunc fn first cap).run Tryz.prog w = .ok (.func fn first cap) w := fun _ _ _ _ => rfl
  have hcell : (w.alloc (.cells #[.int .i64 10] 3)).cell? ⟨w.heap.size, 0, none⟩ = some (.int .i64 10) := by rw [World.cell?_alloc_at _ _ _ _ rfl]; rfl
  have hb0 : Below w.heap.size w (w.alloc (.cells #[.int .i64 10] 3)) := (Below.refl _ w).alloc (Nat.le_refl _) _
  by_cases h0 : 0 < s.size
  case neg =>
    have HR := Lib.hid (Oct.number_empty 10 most s h0)
    have hz0 : s.size = 0 := by omega
    obtain rfl : s = ByteArray.empty := Oct.size_zero s hz0
    clear hcell
    go_enter Tryz.func217, Tryz.ntmps217
    go_wp2_with fail
    go_ret2
    exact ⟨ret_pair HR.out, hb0⟩
  have hne' : ¬ s = ByteArray.empty := fun e => by rw [e] at h0; exact absurd h0 (by decide)
  have hne : s.toList.isEmpty = false := Oct.nonempty s h0
  have hne2 : ¬ s.toList = [] := fun e => by rw [e] at hne; cases hne
  have HEv := Lib.hid (every_dig s 10 w.heap.size 10 rfl (w.alloc (.cells #[.int .i64 10] 3)) hs (by decide) hcell)
  by_cases hd : Oct.allOf (Oct.dig 10) s.data.toList = true
  case neg =>
    have hd' : Oct.allOf (Oct.dig 10) s.data.toList = false := by simpa using hd
    clear hd
    have HR := Lib.hid (Oct.number_bad 10 most _ hd')
    go_enter Tryz.func217, Tryz.ntmps217
    go_wp2_with fail
    refine HEv.out.mono ?_
    rintro e w1 ⟨rfl, m, rfl⟩
    go_wp2_with fail
    go_ret2
    exact ⟨ret_pair HR.out, Go.below_drewN hb0 m⟩
  by_cases hm : most < 0
  · have HR := Lib.hid (Oct.number_neg 10 most s h0 hd hm)
    go_enter Tryz.func217, Tryz.ntmps217
    go_wp2_with fail
    refine HEv.out.mono ?_
    rintro e w1 ⟨rfl, m, rfl⟩
    go_wp2_with fail
    go_ret2
    exact ⟨ret_pair HR.out, Go.below_drewN hb0 m⟩
  have hm0 : 0 ≤ most := by omega
  have HS := fun n => Lib.hid (@Oct.num_some 10 most s h0 hd hm0 n)
  have HO := Lib.hid (Oct.num_none 10 most s h0 hd hm0)
  go_enter Tryz.func217, Tryz.ntmps217
  go_wp2_with fail
  refine HEv.out.mono ?_
  rintro e w1 ⟨rfl, m, rfl⟩
  go_wp2_with fail
  have HC : Hid (((w.alloc (.cells #[.int .i64 10] 3)).drewN m).cell? ⟨w.heap.size, 0, none⟩ = some (.int .i64 10)) := hcell
  clear hcell HEv hmf
  have hbm := Go.below_drewN hb0 m
  clear hb0
  generalize (w.alloc (.cells #[.int .i64 10] 3)).drewN m = W1 at HC hbm ⊢
  have hcell := HC.out
  clear HC
  go_loop [9, 25] (fun x i => ∃ (k : Nat) (n : Int), k ≤ s.size ∧ i = .int .i64 k ∧ x = .int .i64 n ∧ 0 ≤ n ∧ n ≤ most ∧ Hid (Oct.num 10 most 0 s.data.toList = Oct.num 10 most n (s.data.toList.drop k))) (fun _ i => s.size - (intOf i).toNat)
  case atStart => exact ⟨0, 0, by omega, rfl, rfl, by omega, hm0, Lib.hid rfl⟩
  case round =>
    obtain ⟨k, n, hk, rfl, rfl, hn0, hn1, HV⟩ := hrel
    by_cases hlt : k < s.size
    · have hc := (s[k]).toNat_lt
      have HD := Lib.hid (Oct.drop_cons s k hlt)
      have hwb := Oct.dig_lt 10 (Oct.all_at (Oct.dig 10) s k hlt hd)
      have HW := Lib.hid (@Oct.worth_nat s[k])
      obtain ⟨d, hdd⟩ : ∃ d : Nat, d = Oct.worth s[k] := ⟨_, rfl⟩
      rw [← hdd] at hwb
      have HDD := Lib.hid hdd
      clear hdd HW
      by_cases hov : most < n * 10 + (d : Int)
      · have HR : Hid (Oct.number 10 most s.data.toList = (0, 12)) := HO.out (by rw [HV.out, HD.out, Oct.num_more _ _ _ _ _ (by rw [← HDD.out]; exact hov)])
        by_cases h1 : most / 10 < n
        · go_wp2_with (go_at_call 241; refine (worth_c _ _).mono ?_; rw [← HDD.out]; rintro e w' ⟨rfl, rfl⟩)
          go_ret2
          exact ⟨ret_pair HR.out, hbm⟩
        · have h1' : n ≤ most / 10 := by omega
          have h2 : most - (d : Int) < n * 10 := by omega
          have h3 : n * 10 ≤ most := by omega
          go_wp2_with (go_at_call 241; refine (worth_c _ _).mono ?_; rw [← HDD.out]; rintro e w' ⟨rfl, rfl⟩)
          go_ret2
          exact ⟨ret_pair HR.out, hbm⟩
      · have HN : Hid (Oct.num 10 most 0 s.data.toList = Oct.num 10 most (n * 10 + (d : Int)) (s.data.toList.drop (k + 1))) := by
          rw [HV.out, HD.out, Oct.num_on _ _ _ _ _ (by rw [← HDD.out]; exact hov), ← HDD.out]; rfl
        have h1 : n ≤ most / 10 := by omega
        have h2 : n * 10 ≤ most - (d : Int) := by omega
        have h3 : n * 10 ≤ most := by omega
        have h4 : 0 ≤ n * 10 := by omega
        go_wp2_with (go_at_call 241; refine (worth_c _ _).mono ?_; rw [← HDD.out]; rintro e w' ⟨rfl, rfl⟩)
        go_round
        case rel => exact ⟨k + 1, n * 10 + (d : Int), by omega, by go_num, rfl, by omega, by omega, HN⟩
        case measure => simp [intOf]; omega
    · have HE : Hid (s.data.toList.drop k = []) := List.drop_of_length_le (by rw [Oct.length_size]; omega)
      have HR : Hid (Oct.number 10 most s.data.toList = (n, 0)) := (HS n).out (by rw [HV.out, HE.out, Oct.num_nil])
      go_wp2_with fail
      go_ret2
      exact ⟨ret_pair HR.out, hbm⟩
set_option maxHeartbeats 1600000 in
set_option maxRecDepth 100000 in
theorem reckon16 (s : ByteArray) (most : Int) (w : World) (hs : s.size ≤ 1000000) (hm1 : -9223372036854775808 ≤ most) (hm2 : most ≤ 9223372036854775807) :
    Calls Tryz.prog 217 #[.string s, .int .i64 16, .int .i64 most] w fun e w' => e = .returned (.tuple #[.int .i64 (Oct.number 16 most s.data.toList).1, .int .i64 (Oct.number 16 most s.data.toList).2]) ∧ Below w.heap.size w w' := by
  have hmf : ∀ (fn : Fn) (first cap : Array Value) (w : World), (Instr.makeFunc fn first cap).run Tryz.prog w = .ok (.func fn first cap) w := fun _ _ _ _ => rfl
  have hcell : (w.alloc (.cells #[.int .i64 16] 3)).cell? ⟨w.heap.size, 0, none⟩ = some (.int .i64 16) := by rw [World.cell?_alloc_at _ _ _ _ rfl]; rfl
  have hb0 : Below w.heap.size w (w.alloc (.cells #[.int .i64 16] 3)) := (Below.refl _ w).alloc (Nat.le_refl _) _
  by_cases h0 : 0 < s.size
  case neg =>
    have HR := Lib.hid (Oct.number_empty 16 most s h0)
    have hz0 : s.size = 0 := by omega
    obtain rfl : s = ByteArray.empty := Oct.size_zero s hz0
    clear hcell
    go_enter Tryz.func217, Tryz.ntmps217
    go_wp2_with fail
    go_ret2
    exact ⟨ret_pair HR.out, hb0⟩
  have hne' : ¬ s = ByteArray.empty := fun e => by rw [e] at h0; exact absurd h0 (by decide)
  have hne : s.toList.isEmpty = false := Oct.nonempty s h0
  have hne2 : ¬ s.toList = [] := fun e => by rw [e] at hne; cases hne
  have HEv := Lib.hid (every_dig s 16 w.heap.size 16 rfl (w.alloc (.cells #[.int .i64 16] 3)) hs (by decide) hcell)
  by_cases hd : Oct.allOf (Oct.dig 16) s.data.toList = true
  case neg =>
    have hd' : Oct.allOf (Oct.dig 16) s.data.toList = false := by simpa using hd
    clear hd
    have HR := Lib.hid (Oct.number_bad 16 most _ hd')
    go_enter Tryz.func217, Tryz.ntmps217
    go_wp2_with fail
    refine HEv.out.mono ?_
    rintro e w1 ⟨rfl, m, rfl⟩
    go_wp2_with fail
    go_ret2
    exact ⟨ret_pair HR.out, Go.below_drewN hb0 m⟩
  by_cases hm : most < 0
  · have HR := Lib.hid (Oct.number_neg 16 most s h0 hd hm)
    go_enter Tryz.func217, Tryz.ntmps217
    go_wp2_with fail
    refine HEv.out.mono ?_
    rintro e w1 ⟨rfl, m, rfl⟩
    go_wp2_with fail
    go_ret2
    exact ⟨ret_pair HR.out, Go.below_drewN hb0 m⟩
  have hm0 : 0 ≤ most := by omega
  have HS := fun n => Lib.hid (@Oct.num_some 16 most s h0 hd hm0 n)
  have HO := Lib.hid (Oct.num_none 16 most s h0 hd hm0)
  go_enter Tryz.func217, Tryz.ntmps217
  go_wp2_with fail
  refine HEv.out.mono ?_
  rintro e w1 ⟨rfl, m, rfl⟩
  go_wp2_with fail
  have HC : Hid (((w.alloc (.cells #[.int .i64 16] 3)).drewN m).cell? ⟨w.heap.size, 0, none⟩ = some (.int .i64 16)) := hcell
  clear hcell HEv hmf
  have hbm := Go.below_drewN hb0 m
  clear hb0
  generalize (w.alloc (.cells #[.int .i64 16] 3)).drewN m = W1 at HC hbm ⊢
  have hcell := HC.out
  clear HC
  go_loop [9, 25] (fun x i => ∃ (k : Nat) (n : Int), k ≤ s.size ∧ i = .int .i64 k ∧ x = .int .i64 n ∧ 0 ≤ n ∧ n ≤ most ∧ Hid (Oct.num 16 most 0 s.data.toList = Oct.num 16 most n (s.data.toList.drop k))) (fun _ i => s.size - (intOf i).toNat)
  case atStart => exact ⟨0, 0, by omega, rfl, rfl, by omega, hm0, Lib.hid rfl⟩
  case round =>
    obtain ⟨k, n, hk, rfl, rfl, hn0, hn1, HV⟩ := hrel
    by_cases hlt : k < s.size
    · have hc := (s[k]).toNat_lt
      have HD := Lib.hid (Oct.drop_cons s k hlt)
      have hwb := Oct.dig_lt 16 (Oct.all_at (Oct.dig 16) s k hlt hd)
      have HW := Lib.hid (@Oct.worth_nat s[k])
      obtain ⟨d, hdd⟩ : ∃ d : Nat, d = Oct.worth s[k] := ⟨_, rfl⟩
      rw [← hdd] at hwb
      have HDD := Lib.hid hdd
      clear hdd HW
      by_cases hov : most < n * 16 + (d : Int)
      · have HR : Hid (Oct.number 16 most s.data.toList = (0, 12)) := HO.out (by rw [HV.out, HD.out, Oct.num_more _ _ _ _ _ (by rw [← HDD.out]; exact hov)])
        by_cases h1 : most / 16 < n
        · go_wp2_with (go_at_call 241; refine (worth_c _ _).mono ?_; rw [← HDD.out]; rintro e w' ⟨rfl, rfl⟩)
          go_ret2
          exact ⟨ret_pair HR.out, hbm⟩
        · have h1' : n ≤ most / 16 := by omega
          have h2 : most - (d : Int) < n * 16 := by omega
          have h3 : n * 16 ≤ most := by omega
          go_wp2_with (go_at_call 241; refine (worth_c _ _).mono ?_; rw [← HDD.out]; rintro e w' ⟨rfl, rfl⟩)
          go_ret2
          exact ⟨ret_pair HR.out, hbm⟩
      · have HN : Hid (Oct.num 16 most 0 s.data.toList = Oct.num 16 most (n * 16 + (d : Int)) (s.data.toList.drop (k + 1))) := by
          rw [HV.out, HD.out, Oct.num_on _ _ _ _ _ (by rw [← HDD.out]; exact hov), ← HDD.out]; rfl
        have h1 : n ≤ most / 16 := by omega
        have h2 : n * 16 ≤ most - (d : Int) := by omega
        have h3 : n * 16 ≤ most := by omega
        have h4 : 0 ≤ n * 16 := by omega
        go_wp2_with (go_at_call 241; refine (worth_c _ _).mono ?_; rw [← HDD.out]; rintro e w' ⟨rfl, rfl⟩)
        go_round
        case rel => exact ⟨k + 1, n * 16 + (d : Int), by omega, by go_num, rfl, by omega, by omega, HN⟩
        case measure => simp [intOf]; omega
    · have HE : Hid (s.data.toList.drop k = []) := List.drop_of_length_le (by rw [Oct.length_size]; omega)
      have HR : Hid (Oct.number 16 most s.data.toList = (n, 0)) := (HS n).out (by rw [HV.out, HE.out, Oct.num_nil])
      go_wp2_with fail
      go_ret2
      exact ⟨ret_pair HR.out, hbm⟩
end Go.Proofs.YtoanelobggledaaGreatDoor

namespace Go.Proofs.YtoanelobggledaaGreatDoor
open Go.RowKit

set_option maxHeartbeats 400000 in
theorem Number_s (s : ByteArray) (most : Int) (w : World) (hs : s.size ≤ 1000000) (hm1 : -9223372036854775808 ≤ most) (hm2 : most ≤ 9223372036854775807) :
    Calls Tryz.prog 176 #[.string s, .int .i64 most] w fun e w' => e = .returned (.tuple #[.int .i64 (Oct.number 10 most s.data.toList).1, .int .i64 (Oct.number 10 most s.data.toList).2]) ∧ Below w.heap.size w w' := by
  go_enter Tryz.func176, Tryz.ntmps176
  go_wp2_with fail
  refine (reckon10 s most w hs hm1 hm2).mono ?_
  rintro e w1 ⟨rfl, hb⟩
  go_wp2_with fail
  go_ret2
  exact ⟨rfl, hb⟩
set_option maxHeartbeats 400000 in
theorem Hex_s (s : ByteArray) (most : Int) (w : World) (hs : s.size ≤ 1000000) (hm1 : -9223372036854775808 ≤ most) (hm2 : most ≤ 9223372036854775807) :
    Calls Tryz.prog 206 #[.string s, .int .i64 most] w fun e w' => e = .returned (.tuple #[.int .i64 (Oct.number 16 most s.data.toList).1, .int .i64 (Oct.number 16 most s.data.toList).2]) ∧ Below w.heap.size w w' := by
  go_enter Tryz.func206, Tryz.ntmps206
  go_wp2_with fail
  refine (reckon16 s most w hs hm1 hm2).mono ?_
  rintro e w1 ⟨rfl, hb⟩
  go_wp2_with fail
  go_ret2
  exact ⟨rfl, hb⟩
set_option maxHeartbeats 1600000 in
set_option maxRecDepth 100000 in
theorem rNumber10 (s : ByteArray) (most : Int) (w : World) (hs : s.size ≤ 1000000) (hm1 : -9223372036854775808 ≤ most) (hm2 : most ≤ 9223372036854775807) :
    Calls Tryz.prog 145 #[.string s, .int .i64 10, .int .i64 most] w fun e w' => e = .returned (.tuple #[.int .i64 (Oct.number 10 most s.data.toList).1, .int .i64 (Oct.number 10 most s.data.toList).2]) ∧ w = w' := by
  by_cases h0 : 0 < s.size
  case neg =>
    have HR := Lib.hid (Oct.number_empty 10 most s h0)
    have hz0 : s.size = 0 := by omega
    obtain rfl : s = ByteArray.empty := Oct.size_zero s hz0
    go_enter Tryz.func145, Tryz.ntmps145
    go_wp2_with fail
    go_ret2
    exact ⟨ret_pair HR.out, rfl⟩
  have hne : ((s.size : Int) == 0) = false := beq_eq_false_iff_ne.2 (by omega)
  go_enter Tryz.func145, Tryz.ntmps145
  go_wp2_with fail
  go_loop [8] (fun i => ∃ k : Nat, k ≤ s.size ∧ i = .int .i64 k ∧ Hid (Oct.allOf (Oct.dig 10) (s.data.toList.take k) = true)) (fun i => s.size - (intOf i).toNat)
  case atStart => exact ⟨0, by omega, rfl, Lib.hid rfl⟩
  case round =>
    obtain ⟨k, hk, rfl, HA⟩ := hrel
    by_cases hlt : k < s.size
    · by_cases hp : Oct.dig 10 s[k] = true
      · have HN := Lib.hid (Oct.all_snoc (Oct.dig 10) s k hlt)
        have hlt2 := Oct.dig_digit 10 (by decide) hp
        go_wp2_with (go_at_call 190; refine (rDigit_c _ _).mono ?_; rintro e w' ⟨rfl, rfl⟩)
        go_round
        case rel => exact ⟨k + 1, by omega, by go_num, Lib.hid (by rw [HN.out, HA.out, hp]; rfl)⟩
        case measure => simp [intOf]; omega
      · have hp' : Oct.dig 10 s[k] = false := by simpa using hp
        clear hp
        have hge := Oct.digit_dig 10 (by decide) hp'
        have HR := Lib.hid (Oct.number_bad 10 most _ (Oct.all_miss (Oct.dig 10) s k hlt hp'))
        go_wp2_with (go_at_call 190; refine (rDigit_c _ _).mono ?_; rintro e w' ⟨rfl, rfl⟩)
        go_ret2
        exact ⟨ret_pair HR.out, rfl⟩
    · have hd : Oct.allOf (Oct.dig 10) s.data.toList = true := by
        have := HA.out; rwa [Oct.take_all s k (by omega)] at this
      have HDg := Lib.hid hd
      clear hd
      by_cases hm : most < 0
      · have HR := Lib.hid (Oct.number_neg 10 most s h0 HDg.out hm)
        go_wp2_with fail
        go_ret2
        exact ⟨ret_pair HR.out, rfl⟩
      have hm0 : 0 ≤ most := by omega
      have HS := fun n => Lib.hid (@Oct.num_some 10 most s h0 HDg.out hm0 n)
      have HO := Lib.hid (Oct.num_none 10 most s h0 HDg.out hm0)
      clear HA
      go_wp2_with fail
      go_loop [9, 10] (fun x i => ∃ (k : Nat) (n : Int), k ≤ s.size ∧ i = .int .i64 k ∧ x = .int .i64 n ∧ 0 ≤ n ∧ n ≤ most ∧ Hid (Oct.num 10 most 0 s.data.toList = Oct.num 10 most n (s.data.toList.drop k))) (fun _ i => s.size - (intOf i).toNat)
      case atStart => exact ⟨0, 0, by omega, rfl, rfl, by omega, hm0, Lib.hid rfl⟩
      case round =>
        clear hlt hk
        obtain ⟨k, n, hk, rfl, rfl, hn0, hn1, HV⟩ := hrel
        by_cases hlt : k < s.size
        · have hc := (s[k]).toNat_lt
          have HD := Lib.hid (Oct.drop_cons s k hlt)
          have hdk := Oct.all_at (Oct.dig 10) s k hlt HDg.out
          have hwb := Oct.dig_lt 10 hdk
          obtain ⟨d, hdd⟩ : ∃ d : Nat, d = Oct.worth s[k] := ⟨_, rfl⟩
          have hdd2 := hdd.trans (Oct.digit_eq 10 (by decide) hdk)
          rw [← hdd] at hwb
          have HDD := Lib.hid hdd
          have HDE := Lib.hid hdd2
          clear hdd hdd2 hdk
          by_cases hov : most < n * 10 + (d : Int)
          · have HR : Hid (Oct.number 10 most s.data.toList = (0, 12)) := HO.out (by rw [HV.out, HD.out, Oct.num_more _ _ _ _ _ (by rw [← HDD.out]; exact hov)])
            by_cases h1 : most < (d : Int)
            · go_wp2_with (go_at_call 190; refine (rDigit_c _ _).mono ?_; rw [← HDE.out]; rintro e w' ⟨rfl, rfl⟩)
              go_ret2
              exact ⟨ret_pair HR.out, rfl⟩
            · have h2 : (most - (d : Int)) / 10 < n := by omega
              go_wp2_with (go_at_call 190; refine (rDigit_c _ _).mono ?_; rw [← HDE.out]; rintro e w' ⟨rfl, rfl⟩)
              go_ret2
              exact ⟨ret_pair HR.out, rfl⟩
          · have HN : Hid (Oct.num 10 most 0 s.data.toList = Oct.num 10 most (n * 10 + (d : Int)) (s.data.toList.drop (k + 1))) := by
              rw [HV.out, HD.out, Oct.num_on _ _ _ _ _ (by rw [← HDD.out]; exact hov), ← HDD.out]; rfl
            have h1 : (d : Int) ≤ most := by omega
            have h2 : n ≤ (most - (d : Int)) / 10 := by omega
            have h3 : n * 10 ≤ most := by omega
            have h4 : 0 ≤ n * 10 := by omega
            go_wp2_with (go_at_call 190; refine (rDigit_c _ _).mono ?_; rw [← HDE.out]; rintro e w' ⟨rfl, rfl⟩)
            go_round
            case rel => exact ⟨k + 1, n * 10 + (d : Int), by omega, by go_num, rfl, by omega, by omega, HN⟩
            case measure => simp [intOf]; omega
        · have HE : Hid (s.data.toList.drop k = []) := List.drop_of_length_le (by rw [Oct.length_size]; omega)
          have HR : Hid (Oct.number 10 most s.data.toList = (n, 0)) := (HS n).out (by rw [HV.out, HE.out, Oct.num_nil])
          go_wp2_with fail
          go_ret2
          exact ⟨ret_pair HR.out, rfl⟩
set_option maxHeartbeats 1600000 in
set_option maxRecDepth 100000 in
theorem rNumber16 (s : ByteArray) (most : Int) (w : World) (hs : s.size ≤ 1000000) (hm1 : -9223372036854775808 ≤ most) (hm2 : most ≤ 9223372036854775807) :
    Calls Tryz.prog 145 #[.string s, .int .i64 16, .int .i64 most] w fun e w' => e = .returned (.tuple #[.int .i64 (Oct.number 16 most s.data.toList).1, .int .i64 (Oct.number 16 most s.data.toList).2]) ∧ w = w' := by
  by_cases h0 : 0 < s.size
  case neg =>
    have HR := Lib.hid (Oct.number_empty 16 most s h0)
    have hz0 : s.size = 0 := by omega
    obtain rfl : s = ByteArray.empty := Oct.size_zero s hz0
    go_enter Tryz.func145, Tryz.ntmps145
    go_wp2_with fail
    go_ret2
    exact ⟨ret_pair HR.out, rfl⟩
  have hne : ((s.size : Int) == 0) = false := beq_eq_false_iff_ne.2 (by omega)
  go_enter Tryz.func145, Tryz.ntmps145
  go_wp2_with fail
  go_loop [8] (fun i => ∃ k : Nat, k ≤ s.size ∧ i = .int .i64 k ∧ Hid (Oct.allOf (Oct.dig 16) (s.data.toList.take k) = true)) (fun i => s.size - (intOf i).toNat)
  case atStart => exact ⟨0, by omega, rfl, Lib.hid rfl⟩
  case round =>
    obtain ⟨k, hk, rfl, HA⟩ := hrel
    by_cases hlt : k < s.size
    · by_cases hp : Oct.dig 16 s[k] = true
      · have HN := Lib.hid (Oct.all_snoc (Oct.dig 16) s k hlt)
        have hlt2 := Oct.dig_digit 16 (by decide) hp
        go_wp2_with (go_at_call 190; refine (rDigit_c _ _).mono ?_; rintro e w' ⟨rfl, rfl⟩)
        go_round
        case rel => exact ⟨k + 1, by omega, by go_num, Lib.hid (by rw [HN.out, HA.out, hp]; rfl)⟩
        case measure => simp [intOf]; omega
      · have hp' : Oct.dig 16 s[k] = false := by simpa using hp
        clear hp
        have hge := Oct.digit_dig 16 (by decide) hp'
        have HR := Lib.hid (Oct.number_bad 16 most _ (Oct.all_miss (Oct.dig 16) s k hlt hp'))
        go_wp2_with (go_at_call 190; refine (rDigit_c _ _).mono ?_; rintro e w' ⟨rfl, rfl⟩)
        go_ret2
        exact ⟨ret_pair HR.out, rfl⟩
    · have hd : Oct.allOf (Oct.dig 16) s.data.toList = true := by
        have := HA.out; rwa [Oct.take_all s k (by omega)] at this
      have HDg := Lib.hid hd
      clear hd
      by_cases hm : most < 0
      · have HR := Lib.hid (Oct.number_neg 16 most s h0 HDg.out hm)
        go_wp2_with fail
        go_ret2
        exact ⟨ret_pair HR.out, rfl⟩
      have hm0 : 0 ≤ most := by omega
      have HS := fun n => Lib.hid (@Oct.num_some 16 most s h0 HDg.out hm0 n)
      have HO := Lib.hid (Oct.num_none 16 most s h0 HDg.out hm0)
      clear HA
      go_wp2_with fail
      go_loop [9, 10] (fun x i => ∃ (k : Nat) (n : Int), k ≤ s.size ∧ i = .int .i64 k ∧ x = .int .i64 n ∧ 0 ≤ n ∧ n ≤ most ∧ Hid (Oct.num 16 most 0 s.data.toList = Oct.num 16 most n (s.data.toList.drop k))) (fun _ i => s.size - (intOf i).toNat)
      case atStart => exact ⟨0, 0, by omega, rfl, rfl, by omega, hm0, Lib.hid rfl⟩
      case round =>
        clear hlt hk
        obtain ⟨k, n, hk, rfl, rfl, hn0, hn1, HV⟩ := hrel
        by_cases hlt : k < s.size
        · have hc := (s[k]).toNat_lt
          have HD := Lib.hid (Oct.drop_cons s k hlt)
          have hdk := Oct.all_at (Oct.dig 16) s k hlt HDg.out
          have hwb := Oct.dig_lt 16 hdk
          obtain ⟨d, hdd⟩ : ∃ d : Nat, d = Oct.worth s[k] := ⟨_, rfl⟩
          have hdd2 := hdd.trans (Oct.digit_eq 16 (by decide) hdk)
          rw [← hdd] at hwb
          have HDD := Lib.hid hdd
          have HDE := Lib.hid hdd2
          clear hdd hdd2 hdk
          by_cases hov : most < n * 16 + (d : Int)
          · have HR : Hid (Oct.number 16 most s.data.toList = (0, 12)) := HO.out (by rw [HV.out, HD.out, Oct.num_more _ _ _ _ _ (by rw [← HDD.out]; exact hov)])
            by_cases h1 : most < (d : Int)
            · go_wp2_with (go_at_call 190; refine (rDigit_c _ _).mono ?_; rw [← HDE.out]; rintro e w' ⟨rfl, rfl⟩)
              go_ret2
              exact ⟨ret_pair HR.out, rfl⟩
            · have h2 : (most - (d : Int)) / 16 < n := by omega
              go_wp2_with (go_at_call 190; refine (rDigit_c _ _).mono ?_; rw [← HDE.out]; rintro e w' ⟨rfl, rfl⟩)
              go_ret2
              exact ⟨ret_pair HR.out, rfl⟩
          · have HN : Hid (Oct.num 16 most 0 s.data.toList = Oct.num 16 most (n * 16 + (d : Int)) (s.data.toList.drop (k + 1))) := by
              rw [HV.out, HD.out, Oct.num_on _ _ _ _ _ (by rw [← HDD.out]; exact hov), ← HDD.out]; rfl
            have h1 : (d : Int) ≤ most := by omega
            have h2 : n ≤ (most - (d : Int)) / 16 := by omega
            have h3 : n * 16 ≤ most := by omega
            have h4 : 0 ≤ n * 16 := by omega
            go_wp2_with (go_at_call 190; refine (rDigit_c _ _).mono ?_; rw [← HDE.out]; rintro e w' ⟨rfl, rfl⟩)
            go_round
            case rel => exact ⟨k + 1, n * 16 + (d : Int), by omega, by go_num, rfl, by omega, by omega, HN⟩
            case measure => simp [intOf]; omega
        · have HE : Hid (s.data.toList.drop k = []) := List.drop_of_length_le (by rw [Oct.length_size]; omega)
          have HR : Hid (Oct.number 16 most s.data.toList = (n, 0)) := (HS n).out (by rw [HV.out, HE.out, Oct.num_nil])
          go_wp2_with fail
          go_ret2
          exact ⟨ret_pair HR.out, rfl⟩
end Go.Proofs.YtoanelobggledaaGreatDoor

namespace Go.Proofs.YtoanelobggledaaGreatDoor
open Go.RowKit

def strCells (ls : List (List UInt8)) : List Value := ls.map fun l => Value.string (str l)
theorem strCells_length (ls : List (List UInt8)) : (strCells ls).length = ls.length := by simp [strCells]
theorem strCells_snoc (ls : List (List UInt8)) (l : List UInt8) : strCells (ls ++ [l]) = strCells ls ++ [.string (str l)] := by simp [strCells]
theorem strs_info : (Tryz.prog.info? 9).map (fun i => (i.zero, i.size, i.bytes)) = some (some (.string ⟨#[]⟩), 1, 16) := by kernel_rfl
def SIn (w : World) (v : Value) (ls : List (List UInt8)) : Prop := ∃ ao cap, v = .slice ao ls.length cap ∧ (ls = [] ∨ ∃ b o, ao = some ⟨b, o, none⟩ ∧ b < w.heap.size ∧ ∀ j (hj : j < ls.length), w.cell? ⟨b, o + j, none⟩ = some (.string (str ls[j])))
theorem SIn.later {w w' : World} {v : Value} {ls : List (List UInt8)} (h : SIn w v ls) (hb : Below w.heap.size w w') : SIn w' v ls := by
  obtain ⟨ao, cap, hv, h⟩ := h
  refine ⟨ao, cap, hv, ?_⟩
  rcases h with h | ⟨b, o, h1, h2, h3⟩
  · exact .inl h
  · exact .inr ⟨b, o, h1, Nat.lt_of_lt_of_le h2 hb.size, fun j hj => by rw [hb.cell (p := ⟨b, o + j, none⟩) h2]; exact h3 j hj⟩
theorem SIn.of_row {w : World} {base : Nat} {v : Value} {ls : List (List UInt8)} (h : w.ownsRow base 9 1 v ls.length (strCells ls)) : SIn w v ls := by
  rcases h.2 with ⟨hv, h0⟩ | ⟨g, cap, cur, hv, hg, hh, h1, h2, h3, h4⟩
  · exact ⟨none, 0, by rw [hv, h0], .inl (List.eq_nil_of_length_eq_zero h0)⟩
  · refine ⟨some ⟨g, 0, none⟩, cap, hv, .inr ⟨g, 0, rfl, lt_of_block hh, fun j hj => ?_⟩⟩
    have h5 : cur.toList[j]? = some (.string (str ls[j])) := by
      have h6 : (cur.toList.take (ls.length * 1))[j]? = (strCells ls)[j]? := by rw [h4]
      rw [List.getElem?_take_of_lt (by omega)] at h6
      rw [h6]; simp [strCells, hj]
    simp only [World.cell?, hh]
    simpa using h5
end Go.Proofs.YtoanelobggledaaGreatDoor

namespace Go.Proofs.YtoanelobggledaaGreatDoor
open Go.RowKit

def Bools (w w' : World) : Prop := ∀ (k : Nat) (cs : Array Value) (fz : Nat × Nat), w.heap[k]? = some (.cells cs 4 fz) → w'.heap[k]? = some (.cells cs 4 fz)
theorem Bools.trans {a b c : World} (h : Bools a b) (h' : Bools b c) : Bools a c := fun k cs fz hk => h' k cs fz (h k cs fz hk)
theorem Bools.below {w w' : World} (h : Below w.heap.size w w') : Bools w w' := fun k cs fz hk => by rw [h.block k (lt_of_block hk)]; exact hk
def PiecesAt (W w : World) (v : Value) (ls : List (List UInt8)) : Prop := w.heap[W.heap.size]? = some (.cells #[v] 38 (0, 0)) ∧ w.ownsRow (W.heap.size + 1) 9 1 v ls.length (strCells ls) ∧ Below W.heap.size W w
def Pieces (W w : World) (ls : List (List UInt8)) : Prop := ∃ v, PiecesAt W w v ls
theorem Pieces.start (W : World) : Pieces W (W.alloc (.cells #[.slice none 0 0] 38)) [] := ⟨_, heap_alloc_new W _, World.ownsRow_nil _ _ _ _, (Below.refl _ W).alloc (Nat.le_refl _) _⟩
theorem ownsRow_after {w w' : World} {base e n : Nat} {v : Value} {xs : List Value} (h : w.ownsRow base e 1 v n xs) (hb : ∀ (g : Nat) (cur : Array Value), w.heap[g]? = some (Obj.cells cur e (0, 0)) → w'.heap[g]? = some (Obj.cells cur e (0, 0))) : w'.ownsRow base e 1 v n xs := by
  refine ⟨h.1, ?_⟩
  rcases h.2 with h0 | ⟨g, cap, cur, hv, hg, hh, rest⟩
  · exact .inl h0
  · exact .inr ⟨g, cap, cur, hv, hg, hb g cur hh, rest⟩
theorem PiecesAt.after {W w w' : World} {v : Value} {ls : List (List UInt8)} (h : PiecesAt W w v ls) (hb : Below w.heap.size w w') : PiecesAt W w' v ls :=
  ⟨by rw [hb.block _ (lt_of_block h.1)]; exact h.1, ownsRow_after h.2.1 (fun g cur hg => by rw [hb.block g (lt_of_block hg)]; exact hg), h.2.2.trans (hb.mono h.2.2.size)⟩
theorem Pieces.after {W w w' : World} {ls : List (List UInt8)} (h : Pieces W w ls) (hb : Below w.heap.size w w') : Pieces W w' ls := by
  obtain ⟨v, h⟩ := h; exact ⟨v, h.after hb⟩
theorem Pieces.lt {W w : World} {ls : List (List UInt8)} (h : Pieces W w ls) : W.heap.size < w.heap.size := by obtain ⟨v, h⟩ := h; exact lt_of_block h.1
theorem appP {ops : Array Oper} {rest : List Oper} {o : Oper} {a : Act} {Q : Exit → Act → World → Prop} {W w : World} {v : Value} {ls : List (List UInt8)} (h : PiecesAt W w v ls) (l : List UInt8) (hlen : ls.length ≤ 100000000000)
    (hgd : o.guard = none) (s x : Operand) (ho : o.op = .call { callee := .builtin .append, args := #[s, x], argTypes := #[38, 38] })
    (t : ByteArray) (ht : t = str l) (hs : a.eval s = v) (hx : a.eval x = .slice (some ⟨w.heap.size, 0, none⟩) 1 1)
    (hK : ∀ g cap w', PiecesAt W (w'.setCell ⟨W.heap.size, 0, none⟩ (.slice (some ⟨g, 0, none⟩) (ls.length + 1) cap)) (.slice (some ⟨g, 0, none⟩) (ls.length + 1) cap) (ls ++ [l]) → Bools w (w'.setCell ⟨W.heap.size, 0, none⟩ (.slice (some ⟨g, 0, none⟩) (ls.length + 1) cap)) →
      w'.cell? ⟨W.heap.size, 0, none⟩ = some v → w'.frozen? ⟨W.heap.size, 0, none⟩ = false → wpList Tryz.prog ops Q rest (a.put o.dst (.slice (some ⟨g, 0, none⟩) (ls.length + 1) cap)) w') : wpList Tryz.prog ops Q (o :: rest) a (w.alloc (.cells #[.string t] 9)) := by
  obtain ⟨i0, hi, hz0, hz1, hz2⟩ := info_parts strs_info
  have hA := h.after ((Below.refl _ w).alloc (Nat.le_refl _) (.cells #[.string t] 9))
  refine wpList_append_own _ hgd s x _ ho (W.heap.size + 1) 9 i0 (.string ⟨#[]⟩) 1 16 Tryz.underlying38 hi hz0 hz1 hz2 rfl (by decide) v ls.length (strCells ls) hs hA.2.1 ⟨w.heap.size, 0, none⟩ 1 1 [.string t] hx rfl ?_ ?_ (by unfold maxLen; omega) (by omega) (by have := lt_of_block hA.1; omega) (fun v' w' h1 h2 h3 => ?_)
  · intro j u hj
    match j, hj with
    | 0, hj =>
      simp at hj; subst hj
      show (w.alloc (.cells #[.string t] 9)).cell? ⟨w.heap.size, 0 + 0, none⟩ = _
      rw [World.cell?_alloc_at _ _ _ _ rfl]; rfl
  · intro u hu; simp at hu; subst hu; rfl
  · have hrow : ∀ k, v.ownBlock = some k → W.heap.size + 1 ≤ k := fun k hk => (hA.2.1.lt k hk).1
    have hG : w'.heap[W.heap.size]? = some (.cells #[v] 38 (0, 0)) := by
      rw [h2.block _ (lt_of_block hA.1) (fun e => by have := hrow _ e.symm; omega)]; exact hA.1
    have hB : Below W.heap.size W w' := hA.2.2.grown h2 hA.2.2.size (fun k hk => by have := hrow k hk; omega)
    rcases h1.2 with ⟨_, h0⟩ | ⟨g, cap, cur, rfl, hg, hh, h4⟩
    · exact absurd h0 (by omega)
    have hown : w'.ownsRow (W.heap.size + 1) 9 1 (.slice (some ⟨g, 0, none⟩) (ls.length + 1) cap) (ls.length + 1) (strCells (ls ++ [l])) := by
      rw [strCells_snoc, ← ht]; exact h1
    refine hK g cap w' ⟨one_setCell hG, ?_, hB.setCell (Nat.le_refl _) _⟩ ?_ (cell_of_one hG) (free_of_one hG)
    · rw [List.length_append]; exact ownsRow_setCell_below hown (Nat.lt_succ_self _) _
    · intro k cs fz hk
      have hk1 : (w.alloc (.cells #[.string t] 9)).heap[k]? = some (.cells cs 4 fz) := by rw [Below.heap_alloc _ _ _ (lt_of_block hk)]; exact hk
      have hne : k ≠ W.heap.size := fun e => by
        subst e; rw [hA.1] at hk1; simp at hk1
      have hnr : some k ≠ v.ownBlock := by
        rcases hA.2.1.2 with ⟨hv, _⟩ | ⟨g', cap', cur', hv, _, hh', _⟩
        · rw [hv]; simp [Value.ownBlock]
        · rw [hv]; intro e
          have e' : k = g' := by simpa [Value.ownBlock] using e
          subst e'; rw [hh'] at hk1; simp at hk1
      rw [Below.heap_setCell _ _ _ _ (by simpa using hne), h2.block k (lt_of_block hk1) hnr]; exact hk1
set_option maxHeartbeats 800000 in
set_option maxRecDepth 100000 in
theorem add_s (W : World) (s : ByteArray) (ls : List (List UInt8)) (w : World) (hs : s.size ≤ 1000000) (hlen : ls.length ≤ 100000000000) (hP : Pieces W w ls) :
    Calls Tryz.prog 111 #[.string s, .pointer (some ⟨W.heap.size, 0, none⟩)] w fun e w' => e = .returned (.tuple #[]) ∧ Pieces W w' (ls ++ Oct.emit s.data.toList) ∧ Bools w w' := by
  by_cases he : Oct.trim s.data.toList = []
  · have HE := Lib.hid (Oct.emit_no he)
    go_enter Tryz.func111, Tryz.ntmps111
    go_wp2_with fail
    refine (Trim_s s w hs).mono ?_
    rw [he]
    rintro e w1 ⟨rfl, hb⟩
    have hx : (str ([] : List UInt8)) = ⟨#[]⟩ := rfl
    rw [hx]
    clear hx
    go_wp2_with fail
    go_end0
    exact ⟨rfl, by rw [HE.out, List.append_nil]; exact hP.after hb, Bools.below hb⟩
  · have HE := Lib.hid (Oct.emit_yes he)
    have hx1 : (str (Oct.trim s.data.toList)).toList.isEmpty = false := by
      rw [str_toList]; cases h : Oct.trim s.data.toList with
      | nil => exact absurd h he
      | cons _ _ => rfl
    have hx2 : ¬ (str (Oct.trim s.data.toList)).toList = [] := by rw [str_toList]; exact he
    obtain ⟨t, ht⟩ : ∃ t, t = str (Oct.trim s.data.toList) := ⟨_, rfl⟩
    rw [← ht] at hx1 hx2
    have HT := Lib.hid ht
    clear he ht
    go_enter Tryz.func111, Tryz.ntmps111
    go_wp2_with fail
    refine (Trim_s s w hs).mono ?_
    rw [← HT.out]
    rintro e w1 ⟨rfl, hb⟩
    obtain ⟨v, hP1⟩ := hP.after hb
    have hB1 := Bools.below hb
    obtain ⟨ao, n, cp, rfl⟩ : ∃ ao n cp, v = .slice ao n cp := by
      rcases hP1.2.1.2 with ⟨hv, _⟩ | ⟨g, cap, cur, hv, _⟩
      · exact ⟨_, _, _, hv⟩
      · exact ⟨_, _, _, hv⟩
    have hc0 := cell_of_one hP1.1
    have hf0 := free_of_one hP1.1
    go_wp2_with (at_builtin; refine appP hP1 (Oct.trim s.data.toList) hlen rfl _ _ rfl t HT.out rfl rfl ?_; intro g cap w2 hP2 hB2 hc2 hf2)
    go_end0
    exact ⟨rfl, ⟨_, by rw [HE.out]; exact hP2⟩, hB1.trans hB2⟩
def Marks (w : World) (E Q : Nat) (q e : Bool) : Prop := w.heap[E]? = some (.cells #[.bool e] 4 (0, 0)) ∧ w.heap[Q]? = some (.cells #[.bool q] 4 (0, 0)) ∧ E ≠ Q
theorem Marks.later {w w' : World} {E Q : Nat} {q e : Bool} (h : Marks w E Q q e) (hb : Bools w w') : Marks w' E Q q e := ⟨hb _ _ _ h.1, hb _ _ _ h.2.1, h.2.2⟩
theorem Marks.start (w : World) : Marks ((w.alloc (.cells #[.bool false] 4)).alloc (.cells #[.bool false] 4)) (w.heap.size + 1) w.heap.size false false := by
  refine ⟨?_, ?_, by omega⟩
  · have := heap_alloc_new (w.alloc (.cells #[.bool false] 4)) (.cells #[.bool false] 4)
    simpa using this
  · rw [Below.heap_alloc _ _ _ (by simp)]; exact heap_alloc_new w _
theorem Marks.setE {w : World} {E Q : Nat} {q e : Bool} (h : Marks w E Q q e) (e' : Bool) : Marks (w.setCell ⟨E, 0, none⟩ (.bool e')) E Q q e' :=
  ⟨one_setCell h.1, by rw [Below.heap_setCell _ _ _ _ (fun x => h.2.2 x.symm)]; exact h.2.1, h.2.2⟩
theorem Marks.setQ {w : World} {E Q : Nat} {q e : Bool} (h : Marks w E Q q e) (q' : Bool) : Marks (w.setCell ⟨Q, 0, none⟩ (.bool q')) E Q q' e :=
  ⟨by rw [Below.heap_setCell _ _ _ _ h.2.2]; exact h.1, one_setCell h.2.1, h.2.2⟩
def Apart (w w' : World) (E Q : Nat) : Prop := w'.os = w.os ∧ w'.tape = w.tape ∧ w'.output = w.output ∧ w'.heap.size = w.heap.size ∧ ∀ k, k ≠ E → k ≠ Q → w'.heap[k]? = w.heap[k]?
theorem Apart.refl (w : World) (E Q : Nat) : Apart w w E Q := ⟨rfl, rfl, rfl, rfl, fun _ _ _ => rfl⟩
theorem Apart.set {w w' : World} {E Q : Nat} (h : Apart w w' E Q) (b : Nat) (hb : b = E ∨ b = Q) (v : Value) : Apart w (w'.setCell ⟨b, 0, none⟩ v) E Q := by
  refine ⟨h.1, h.2.1, h.2.2.1, by simp [h.2.2.2.1], fun k h1 h2 => ?_⟩
  rw [Below.heap_setCell _ _ _ _ (by rcases hb with rfl | rfl <;> simpa using ‹_›)]
  exact h.2.2.2.2 k h1 h2
theorem Apart.pieces {W w w' : World} {E Q : Nat} {q e : Bool} {ls : List (List UInt8)} (h : Apart w w' E Q) (hM : Marks w E Q q e) (hP : Pieces W w ls) (hE : W.heap.size ≤ E) (hQ : W.heap.size ≤ Q) : Pieces W w' ls := by
  obtain ⟨v, h1, h2, h3⟩ := hP
  have ne : ∀ (k : Nat) (c : Array Value) (t : TypeId), w.heap[k]? = some (Obj.cells c t (0, 0)) → t ≠ 4 → w'.heap[k]? = some (Obj.cells c t (0, 0)) := fun k c t hk ht => by
    rw [h.2.2.2.2 k (fun e => by subst e; rw [hM.1] at hk; simp at hk; exact ht hk.2.symm) (fun e => by subst e; rw [hM.2.1] at hk; simp at hk; exact ht hk.2.symm)]
    exact hk
  refine ⟨v, ne _ _ _ h1 (by decide), ownsRow_after h2 (fun g cur hg => ne g cur _ hg (by decide)), ?_⟩
  exact h3.trans ⟨h.1, h.2.1, h.2.2.1, by rw [h.2.2.2.1]; exact Nat.le_refl _, fun k hk => h.2.2.2.2 k (by omega) (by omega)⟩
set_option maxHeartbeats 400000 in
theorem outside_w (w : World) :
    Calls Tryz.prog 113 #[] w fun e w' => e = .returned (.func (.func 147) #[] #[.pointer (some ⟨w.heap.size + 1, 0, none⟩), .pointer (some ⟨w.heap.size, 0, none⟩)]) ∧ w' = (w.alloc (.cells #[.bool false] 4)).alloc (.cells #[.bool false] 4) := by
  have hmf : ∀ (fn : Fn) (first cap : Array Value) (w : World), (Instr.makeFunc fn first cap).run Tryz.prog w = .ok (.func fn first cap) w := fun _ _ _ _ => rfl
  go_enter Tryz.func113, Tryz.ntmps113
  go_wp2
  go_ret
  exact ⟨rfl, rfl⟩
set_option maxHeartbeats 800000 in
theorem outside_c (c : UInt8) (E Q : Nat) (q e : Bool) (w : World) (hM : Marks w E Q q e) :
    Calls Tryz.prog 147 #[.int .u8 c.toNat, .pointer (some ⟨E, 0, none⟩), .pointer (some ⟨Q, 0, none⟩)] w fun r w' => r = .returned (.bool (!(Oct.nq q e c).1)) ∧ Marks w' E Q (Oct.nq q e c).1 (Oct.nq q e c).2 ∧ Apart w w' E Q := by
  have hc := c.toNat_lt
  have e1 := cell_of_one hM.1
  have e2 := free_of_one hM.1
  have q1 := cell_of_one hM.2.1
  have q2 := free_of_one hM.2.1
  have hEQ : ¬ E = Q := hM.2.2
  have hQE : ¬ Q = E := fun h => hM.2.2 h.symm
  cases e with
  | true =>
    have HN := Lib.hid (Oct.nq_esc q c)
    go_enter Tryz.func147, Tryz.ntmps147
    go_wp2
    go_ret
    rw [HN.out]
    exact ⟨rfl, hM.setE _, (Apart.refl w E Q).set E (.inl rfl) _⟩
  | false =>
    by_cases h34 : (c.toNat : Int) = 34
    · have HN := Lib.hid (Oct.nq_quote q c h34)
      cases q with
      | true =>
        have b1 : (c.toNat : Int) ≠ 92 := by omega
        go_enter Tryz.func147, Tryz.ntmps147
        go_wp2
        go_ret
        rw [HN.out]
        exact ⟨rfl, hM.setQ _, (Apart.refl w E Q).set Q (.inr rfl) _⟩
      | false =>
        have b1 : (c.toNat : Int) ≠ 92 := by omega
        go_enter Tryz.func147, Tryz.ntmps147
        go_wp2
        go_ret
        rw [HN.out]
        exact ⟨rfl, hM.setQ _, (Apart.refl w E Q).set Q (.inr rfl) _⟩
    have b34 : ((c.toNat : Int) == 34) = false := beq_eq_false_iff_ne.2 h34
    by_cases h92 : (c.toNat : Int) = 92
    · cases q with
      | true =>
        have HN := Lib.hid (Oct.nq_mark c h92)
        clear h34 b34
        have b1 : (c.toNat : Int) ≠ 34 := by omega
        go_enter Tryz.func147, Tryz.ntmps147
        go_wp2
        go_ret
        rw [HN.out]
        exact ⟨rfl, hM.setE _, (Apart.refl w E Q).set E (.inl rfl) _⟩
      | false =>
        have HN := Lib.hid (Oct.nq_out c h34)
        clear h34
        have b1 : (c.toNat : Int) ≠ 34 := by omega
        go_enter Tryz.func147, Tryz.ntmps147
        go_wp2
        go_ret
        rw [HN.out]
        exact ⟨rfl, hM, Apart.refl w E Q⟩
    have b92 : ((c.toNat : Int) == 92) = false := beq_eq_false_iff_ne.2 h92
    have HN := Lib.hid (Oct.nq_else q c h34 h92)
    clear h34 h92
    cases q with
    | true =>
      have b1 : True := trivial
      go_enter Tryz.func147, Tryz.ntmps147
      go_wp2
      go_ret
      rw [HN.out]
      exact ⟨rfl, hM, Apart.refl w E Q⟩
    | false =>
      have b1 : True := trivial
      go_enter Tryz.func147, Tryz.ntmps147
      go_wp2
      go_ret
      rw [HN.out]
      exact ⟨rfl, hM, Apart.refl w E Q⟩
end Go.Proofs.YtoanelobggledaaGreatDoor

namespace Go.Proofs.YtoanelobggledaaGreatDoor
open Go.RowKit

theorem cut_mid (s : ByteArray) (f k : Nat) : (s.extract f k).data.toList = (s.data.toList.take k).drop f := by
  rw [Lib.extract_data, List.drop_take]
set_option maxHeartbeats 3200000 in
set_option maxRecDepth 100000 in
theorem Split_t (va : Value) (ls : List (List UInt8)) (w : World) (hv : SIn w va ls) (hn : ls.length ≤ 50000) (hl : ∀ l ∈ ls, l.length ≤ 1000000) :
    Calls Tryz.prog 84 #[va] w fun e w' => ∃ v, e = .returned v ∧ w'.ownsRow (w.heap.size + 1) 9 1 v (Oct.splitAll ls).length (strCells (Oct.splitAll ls)) ∧ Below w.heap.size w w' := by
  have hmf : ∀ (fn : Fn) (first cap : Array Value) (w : World), (Instr.makeFunc fn first cap).run Tryz.prog w = .ok (.func fn first cap) w := fun _ _ _ _ => rfl
  have hP0 := Pieces.start w
  obtain ⟨ao, ca, rfl, hv⟩ := hv
  obtain ⟨n, hnn⟩ : ∃ n, n = ls.length := ⟨_, rfl⟩
  rw [← hnn] at hn ⊢
  have HN := Lib.hid hnn
  by_cases h0 : n = 0
  · subst h0
    have HE : Hid (ls = []) := List.eq_nil_of_length_eq_zero HN.out.symm
    clear hnn hv hl
    have hc0 := cell_of_one (heap_alloc_new w (.cells #[.slice none 0 0] 38))
    go_enter Tryz.func84, Tryz.ntmps84
    go_wp2_with fail
    refine wp_loop_rounds 1 ?_
    rw [rounds_succ]
    go_wp2_with fail
    go_ret
    refine ⟨_, rfl, ?_, hP0.choose_spec.2.2⟩
    rw [HE.out]
    exact World.ownsRow_nil _ _ _ _
  obtain ⟨b, o, rfl, hb, hc⟩ := hv.resolve_left (fun e => h0 (by rw [hnn, e]; rfl))
  have HC : Hid (∀ j (hj : j < n), w.cell? ⟨b, o + j, none⟩ = some (.string (str (ls[j]'(HN.out ▸ hj))))) := fun j hj => hc j (HN.out ▸ hj)
  have HL := Lib.hid hl
  clear hc hv hnn h0 hl
  go_enter Tryz.func84, Tryz.ntmps84
  go_wp2_with fail
  go_loopw [13] (fun i wr => ∃ k : Nat, k ≤ n ∧ i = .int .i64 k ∧ Pieces w wr (Oct.splitAll (ls.take k))) (fun i _ => n - (intOf i).toNat)
  case atStart => exact ⟨0, by omega, rfl, hP0⟩
  case round =>
    clear hP0
    obtain ⟨k, hk, rfl, hP⟩ := hrel
    obtain ⟨wo, rfl⟩ : ∃ wo : World, wo = wr := ⟨_, rfl⟩
    by_cases hlt : k < n
    · have hkl : k < ls.length := by have := HN.out; omega
      have HSn := Lib.hid (Oct.splitAll_snoc ls k hkl)
      have hbo : Below w.heap.size w wo := by obtain ⟨v, h⟩ := hP; exact h.2.2
      have hcell := HC.out k hlt
      rw [← hbo.cell (p := ⟨b, o + k, none⟩) hb] at hcell
      have hsz : (str ls[k]).size ≤ 1000000 := by rw [str_size]; exact HL.out _ (List.getElem_mem hkl)
      have HX := Lib.hid (str_list ls[k])
      have HD : Hid ((Oct.splitAll (ls.take k)).length ≤ 1000001 * 50000) := by
        have h1 := Oct.splitAll_len (ls.take k) (fun l hl => HL.out l (List.mem_of_mem_take hl))
        have h2 := List.length_take_le k ls
        show _ ≤ _
        omega
      obtain ⟨D, hDD⟩ : ∃ D, D = Oct.splitAll (ls.take k) := ⟨_, rfl⟩
      rw [← hDD] at hP HD HSn
      have HDD := Lib.hid hDD
      clear hDD
      generalize str ls[k] = s at hcell hsz HX
      have hGo := hP.lt
      go_wp2_with (go_at_call 113; refine (outside_w _).mono ?_; rintro e w' ⟨rfl, rfl⟩)
      have hM0 := Marks.start wo
      have hP0 := hP.after (((Below.refl _ wo).alloc (Nat.le_refl _) (.cells #[.bool false] 4)).alloc (by simp) (.cells #[.bool false] 4))
      clear hP hbo hcell
      go_loopw [7, 20] (fun f i wr => ∃ (f' k' : Nat) (q e : Bool) (out : List (List UInt8)), k' ≤ s.size ∧ f = .int .i64 f' ∧ i = .int .i64 k' ∧ f' ≤ k' ∧ Hid (Oct.At s f' k' out q e) ∧ Pieces w wr (D ++ out) ∧ Marks wr (wo.heap.size + 1) wo.heap.size q e) (fun _ i _ => s.size - (intOf i).toNat)
      case atStart => exact ⟨0, 0, false, false, [], by omega, rfl, rfl, by omega, Oct.At.zero s, by rw [List.append_nil]; exact hP0, hM0⟩
      case round =>
        clear hM0 hP0
        obtain ⟨f', k', q, e, out, hk', rfl, rfl, hf', HA, hP, hM⟩ := hrel
        have hlen : (D ++ out).length ≤ 100000000000 := by
          have h1 := HA.out.len
          have h2 : D.length ≤ 1000001 * 50000 := HD.out
          rw [List.length_append]; omega
        by_cases hlt2 : k' < s.size
        · have hc := (s[k']).toNat_lt
          cases hq : (Oct.nq q e s[k']).1 with
          | true =>
            have HN2 := Lib.hid (HA.out.on hlt2 (by rw [hq]; simp))
            go_wp2_with (go_at_call 147; refine (outside_c _ _ _ q e _ hM).mono ?_; rintro r w1 ⟨rfl, hM1, hA1⟩)
            go_roundw
            case rel => exact ⟨f', k' + 1, _, _, out, by omega, rfl, by go_num, by omega, HN2, hA1.pieces hM hP (by omega) (by omega), hM1⟩
            case measure => simp [intOf]; omega
          | false =>
            by_cases h44 : (s[k'].toNat : Int) = 44
            · have HN2 := Lib.hid (HA.out.cut hlt2 hq (Oct.u8_eq (n := 44) h44))
              have b44 : ((s[k'].toNat : Int) == 44) = true := beq_iff_eq.2 h44
              clear h44
              have hcs : (s.extract f' k').size ≤ 1000000 := by simp; omega
              have HCM := Lib.hid (cut_mid s f' k')
              go_wp2_with (first | (go_at_call 147; refine (outside_c _ _ _ q e _ hM).mono ?_; rintro r w1 ⟨rfl, hM1, hA1⟩; have hP1 := hA1.pieces hM hP (by omega) (by omega)) | (go_at_call 111; refine (add_s w (s.extract f' k') (D ++ out) _ hcs hlen hP1).mono ?_; rintro r w2 ⟨rfl, hP2, hB2⟩))
              go_roundw
              case rel => exact ⟨k' + 1, k' + 1, _, _, _, by omega, by go_num, by go_num, by omega, HN2, by rw [← HCM.out, ← List.append_assoc]; exact hP2, hM1.later hB2⟩
              case measure => simp [intOf]; omega
            · have HN2 := Lib.hid (HA.out.on hlt2 (by rintro ⟨_, h⟩; exact h44 (by rw [h]; rfl)))
              have b44 : ((s[k'].toNat : Int) == 44) = false := beq_eq_false_iff_ne.2 h44
              clear h44
              go_wp2_with (go_at_call 147; refine (outside_c _ _ _ q e _ hM).mono ?_; rintro r w1 ⟨rfl, hM1, hA1⟩)
              go_roundw
              case rel => exact ⟨f', k' + 1, _, _, out, by omega, rfl, by go_num, by omega, HN2, hA1.pieces hM hP (by omega) (by omega), hM1⟩
              case measure => simp [intOf]; omega
        · obtain rfl : k' = s.size := by omega
          have HT := Lib.hid HA.out.done
          have hcs : (s.extract f' s.size).size ≤ 1000000 := by simp; omega
          have HCM := Lib.hid (cut_mid s f' s.size)
          have HTA := Lib.hid (Oct.take_all s s.size (Nat.le_refl _))
          go_wp2_with (go_at_call 111; refine (add_s w (s.extract f' s.size) (D ++ out) _ hcs hlen hP).mono ?_; rintro r w2 ⟨rfl, hP2, hB2⟩)
          go_roundw
          case rel => exact ⟨k + 1, by omega, by go_num, by rw [HSn.out, ← HX.out, HT.out, ← List.append_assoc]; rw [HCM.out, HTA.out] at hP2; exact hP2⟩
          case measure => simp [intOf]; omega
    · obtain rfl : k = n := by omega
      obtain ⟨v, hP1⟩ := hP
      have HTA : Hid (ls.take k = ls) := List.take_of_length_le (by have := HN.out; omega)
      obtain ⟨av, nv, cv, rfl⟩ : ∃ a n c, v = .slice a n c := by
        rcases hP1.2.1.2 with ⟨hv, _⟩ | ⟨g, cap, cur, hv, _⟩
        · exact ⟨_, _, _, hv⟩
        · exact ⟨_, _, _, hv⟩
      have hc0 := cell_of_one hP1.1
      go_wp2_with fail
      go_ret
      exact ⟨_, rfl, by have h := hP1.2.1; rw [HTA.out] at h; exact h, hP1.2.2⟩
theorem Split_s (va : Value) (ls : List (List UInt8)) (w : World) (hv : SIn w va ls) (hn : ls.length ≤ 1000) (hl : ∀ l ∈ ls, l.length ≤ 1000000) :
    Calls Tryz.prog 84 #[va] w fun e w' => ∃ v, e = .returned v ∧ w'.ownsRow (w.heap.size + 1) 9 1 v (Oct.splitAll ls).length (strCells (Oct.splitAll ls)) ∧ Below w.heap.size w w' :=
  Split_t va ls w hv (by omega) hl
end Go.Proofs.YtoanelobggledaaGreatDoor

namespace Go.Proofs.YtoanelobggledaaGreatDoor
open Go.RowKit

def SBuf (W w : World) (v : Value) (ls : List (List UInt8)) : Prop := w.ownsRow W.heap.size 9 1 v ls.length (strCells ls) ∧ Below W.heap.size W w
theorem SBuf.nil (W : World) : SBuf W W (.slice none 0 0) [] := ⟨World.ownsRow_nil _ _ _ _, Below.refl _ _⟩
theorem SBuf.after {W w w' : World} {v : Value} {ls : List (List UInt8)} (h : SBuf W w v ls) (hb : Below w.heap.size w w') : SBuf W w' v ls :=
  ⟨ownsRow_after h.1 (fun g cur hg => by rw [hb.block g (lt_of_block hg)]; exact hg), h.2.trans (hb.mono h.2.size)⟩
theorem SBuf.sin {W w : World} {v : Value} {ls : List (List UInt8)} (h : SBuf W w v ls) : SIn w v ls := SIn.of_row h.1
theorem appS {ops : Array Oper} {rest : List Oper} {o : Oper} {a : Act} {Q : Exit → Act → World → Prop} {W w : World} {v : Value} {ls : List (List UInt8)} (h : SBuf W w v ls) (l : List UInt8) (hlen : ls.length ≤ 100000000000)
    (hgd : o.guard = none) (s x : Operand) (ho : o.op = .call { callee := .builtin .append, args := #[s, x], argTypes := #[38, 38] })
    (t : ByteArray) (ht : t = str l) (hs : a.eval s = v) (hx : a.eval x = .slice (some ⟨w.heap.size, 0, none⟩) 1 1)
    (hK : ∀ v' w', SBuf W w' v' (ls ++ [l]) → Below w.heap.size w w' ∨ True → wpList Tryz.prog ops Q rest (a.put o.dst v') w') : wpList Tryz.prog ops Q (o :: rest) a (w.alloc (.cells #[.string t] 9)) := by
  obtain ⟨i0, hi, hz0, hz1, hz2⟩ := info_parts strs_info
  have hA := h.after ((Below.refl _ w).alloc (Nat.le_refl _) (.cells #[.string t] 9))
  refine wpList_append_own _ hgd s x _ ho W.heap.size 9 i0 (.string ⟨#[]⟩) 1 16 Tryz.underlying38 hi hz0 hz1 hz2 rfl (by decide) v ls.length (strCells ls) hs hA.1 ⟨w.heap.size, 0, none⟩ 1 1 [.string t] hx rfl ?_ ?_ (by unfold maxLen; omega) (by omega) hA.2.size (fun v' w' h1 h2 h3 => ?_)
  · intro j u hj
    match j, hj with
    | 0, hj =>
      simp at hj; subst hj
      show (w.alloc (.cells #[.string t] 9)).cell? ⟨w.heap.size, 0 + 0, none⟩ = _
      rw [World.cell?_alloc_at _ _ _ _ rfl]; rfl
  · intro u hu; simp at hu; subst hu; rfl
  · refine hK v' w' ⟨?_, hA.2.grown h2 hA.2.size (fun k hk => (hA.1.lt k hk).1)⟩ (.inr trivial)
    rw [strCells_snoc, ← ht]
    simpa using h1
def RAt (s : ByteArray) (D acc : List (List UInt8)) (f k : Nat) (q e : Bool) : Prop :=
  (k ≤ s.size → f ≤ k ∧ (e = true → q = true) ∧ ∃ out, acc = D ++ out ∧ Oct.At s f k out q e) ∧ (k = s.size + 1 → acc = D ++ Oct.splitText s.data.toList)
theorem RAt.zero (s : ByteArray) (D : List (List UInt8)) : RAt s D D 0 0 false false := ⟨fun _ => ⟨Nat.le_refl 0, fun h => h, [], by rw [List.append_nil], Oct.At.zero s⟩, fun h => by omega⟩
theorem RAt.le {s : ByteArray} {D acc : List (List UInt8)} {f k : Nat} {q e : Bool} (h : RAt s D acc f k q e) (hk : k ≤ s.size) : f ≤ k := (h.1 hk).1
theorem RAt.eq {s : ByteArray} {D acc : List (List UInt8)} {f k : Nat} {q e : Bool} (h : RAt s D acc f k q e) (hk : k ≤ s.size) : e = true → q = true := (h.1 hk).2.1
theorem RAt.len {s : ByteArray} {D acc : List (List UInt8)} {f k : Nat} {q e : Bool} (h : RAt s D acc f k q e) (hk : k ≤ s.size) : acc.length ≤ D.length + k := by
  obtain ⟨_, _, out, rfl, hA⟩ := h.1 hk
  have := hA.len
  rw [List.length_append]; omega
theorem RAt.last {s : ByteArray} {D acc : List (List UInt8)} {f : Nat} {q e : Bool} (h : RAt s D acc f s.size q e) (f' : Nat) (q' e' : Bool) : RAt s D (acc ++ Oct.emit (s.extract f s.size).data.toList) f' (s.size + 1) q' e' := by
  obtain ⟨_, _, out, rfl, hA⟩ := h.1 (Nat.le_refl _)
  refine ⟨fun h => by omega, fun _ => ?_⟩
  rw [hA.done, cut_mid, Oct.take_all s s.size (Nat.le_refl _), List.append_assoc]
theorem RAt.cut {s : ByteArray} {D acc : List (List UInt8)} {f k : Nat} (h : RAt s D acc f k false false) (hk : k < s.size) (hc : (s[k].toNat : Int) = 44) : RAt s D (acc ++ Oct.emit (s.extract f k).data.toList) (k + 1) (k + 1) false false := by
  obtain ⟨_, _, out, rfl, hA⟩ := h.1 (by omega)
  have e := Oct.u8_eq (n := 44) hc
  have hn : Oct.nq false false s[k] = (false, false) := by rw [e]; rfl
  have h2 := hA.cut hk (by rw [hn]) e
  rw [hn] at h2
  exact ⟨fun _ => ⟨Nat.le_refl _, fun h => h, out ++ Oct.emit (s.extract f k).data.toList, by rw [List.append_assoc], by rw [cut_mid]; exact h2⟩, fun h => by omega⟩
theorem RAt.on {s : ByteArray} {D acc : List (List UInt8)} {f k : Nat} {q e : Bool} (h : RAt s D acc f k q e) (hk : k < s.size) (q' e' : Bool) (hn : Oct.nq q e s[k] = (q', e')) (hne : q' = true ∨ ¬ (s[k].toNat : Int) = 44) (he : e' = true → q' = true) : RAt s D acc f (k + 1) q' e' := by
  obtain ⟨hf, _, out, rfl, hA⟩ := h.1 (by omega)
  have h2 := hA.on hk (by
    rw [hn]; rintro ⟨a, b⟩
    rcases hne with rfl | hne
    · cases a
    · exact hne (by rw [b]; rfl))
  rw [hn] at h2
  exact ⟨fun _ => ⟨by omega, he, out, rfl, h2⟩, fun h => by omega⟩
theorem RAt.done {s : ByteArray} {D acc : List (List UInt8)} {f k : Nat} {q e : Bool} (h : RAt s D acc f k q e) (hk : k = s.size + 1) : acc = D ++ Oct.splitText s.data.toList := h.2 hk
set_option maxHeartbeats 6400000 in
set_option maxRecDepth 100000 in
theorem rSplit_s (va : Value) (ls : List (List UInt8)) (w : World) (hv : SIn w va ls) (hn : ls.length ≤ 1000) (hl : ∀ l ∈ ls, l.length ≤ 1000000) :
    Calls Tryz.prog 23 #[va] w fun e w' => ∃ v, e = .returned v ∧ SBuf w w' v (Oct.splitAll ls) := by
  obtain ⟨ao, ca, rfl, hv⟩ := hv
  obtain ⟨n, hnn⟩ : ∃ n, n = ls.length := ⟨_, rfl⟩
  rw [← hnn] at hn ⊢
  have HN := Lib.hid hnn
  by_cases h0 : n = 0
  · subst h0
    have HE : Hid (ls = []) := List.eq_nil_of_length_eq_zero HN.out.symm
    clear hnn hv hl
    go_enter Tryz.func23, Tryz.ntmps23
    go_wp2_with fail
    refine wp_loop_rounds 1 ?_
    rw [rounds_succ]
    go_wp2_with fail
    go_ret
    exact ⟨_, rfl, by rw [HE.out]; exact SBuf.nil _⟩
  obtain ⟨b, o, rfl, hb, hc⟩ := hv.resolve_left (fun e => h0 (by rw [hnn, e]; rfl))
  have HC : Hid (∀ j (hj : j < n), w.cell? ⟨b, o + j, none⟩ = some (.string (str (ls[j]'(HN.out ▸ hj))))) := fun j hj => hc j (HN.out ▸ hj)
  have HL := Lib.hid hl
  clear hc hv hnn h0 hl
  go_enter Tryz.func23, Tryz.ntmps23
  go_wp2_with fail
  go_loopw [3, 4] (fun v i wr => ∃ k : Nat, k ≤ n ∧ i = .int .i64 k ∧ SBuf w wr v (Oct.splitAll (ls.take k))) (fun _ i _ => n - (intOf i).toNat)
  case atStart => exact ⟨0, by omega, rfl, SBuf.nil w⟩
  case round =>
    obtain ⟨k, hk, rfl, hP⟩ := hrel
    obtain ⟨wo, rfl⟩ : ∃ wo : World, wo = wr := ⟨_, rfl⟩
    by_cases hlt : k < n
    · have hkl : k < ls.length := by have := HN.out; omega
      have HSn := Lib.hid (Oct.splitAll_snoc ls k hkl)
      have hcell := HC.out k hlt
      rw [← hP.2.cell (p := ⟨b, o + k, none⟩) hb] at hcell
      have hsz : (str ls[k]).size ≤ 1000000 := by rw [str_size]; exact HL.out _ (List.getElem_mem hkl)
      have HX := Lib.hid (str_list ls[k])
      have HD : Hid ((Oct.splitAll (ls.take k)).length ≤ 1000001 * 1000) := by
        have h1 := Oct.splitAll_len (ls.take k) (fun l hl => HL.out l (List.mem_of_mem_take hl))
        have h2 := List.length_take_le k ls
        show _ ≤ _
        omega
      obtain ⟨D, hDD⟩ : ∃ D, D = Oct.splitAll (ls.take k) := ⟨_, rfl⟩
      rw [← hDD] at hP HD HSn
      clear hDD
      generalize str ls[k] = s at hcell hsz HX
      go_wp2_with fail
      clear hcell
      go_loopw [3, 6, 7, 8, 9] (fun v f x y i wr => ∃ (f' k' : Nat) (q e : Bool) (acc : List (List UInt8)), k' ≤ s.size + 1 ∧ f = .int .i64 f' ∧ x = .bool q ∧ y = .bool e ∧ i = .int .i64 k' ∧ Hid (RAt s D acc f' k' q e) ∧ SBuf w wr v acc) (fun _ _ _ _ i _ => s.size + 1 - (intOf i).toNat)
      case atStart => exact ⟨0, 0, false, false, D, by omega, rfl, rfl, rfl, rfl, RAt.zero s D, hP⟩
      case round =>
        clear hP
        obtain ⟨f', k', q, e, acc, hk', rfl, rfl, rfl, rfl, HA, hP⟩ := hrel
        by_cases hend : k' ≤ s.size
        case neg =>
          have HT := Lib.hid (HA.out.done (by omega))
          go_wp2_with fail
          go_roundw
          case rel => exact ⟨k + 1, by omega, by go_num, by rw [HSn.out, ← HX.out, ← HT.out]; exact hP⟩
          case measure => simp [intOf]; omega
        have hf' := HA.out.le hend
        have hlen : acc.length ≤ 100000000000 := by
          have h1 := HA.out.len hend
          have h2 : D.length ≤ 1000001 * 1000 := HD.out
          omega
        by_cases hlt2 : k' < s.size
        case neg =>
          obtain rfl : k' = s.size := by omega
          have hcs : (s.extract f' s.size).size ≤ 1000000 := by simp; omega
          by_cases he : Oct.trim (s.extract f' s.size).data.toList = []
          · have HM : Hid (Oct.emit (s.extract f' s.size).data.toList = []) := Oct.emit_no he
            have HS : Hid (str (Oct.trim (s.extract f' s.size).data.toList) = ⟨#[]⟩) := by rw [he]; rfl
            clear he
            go_wp2_with (go_at_call 53; refine (rTrim_s (s.extract f' s.size) _ hcs).mono ?_; rw [HS.out]; rintro r w' ⟨rfl, rfl⟩)
            go_roundw
            case rel => exact ⟨s.size + 1, s.size + 1, _, _, acc, by omega, by go_num, rfl, rfl, by go_num, by have h := HA.out.last (s.size + 1) q e; rw [HM.out, List.append_nil] at h; exact h, hP⟩
            case measure => simp [intOf]
          · have HM : Hid (Oct.emit (s.extract f' s.size).data.toList = [Oct.trim (s.extract f' s.size).data.toList]) := Oct.emit_yes he
            have hx1 : (str (Oct.trim (s.extract f' s.size).data.toList)).toList.isEmpty = false := by
              rw [str_toList]; cases h : Oct.trim (s.extract f' s.size).data.toList with
              | nil => exact absurd h he
              | cons _ _ => rfl
            have hx2 : ¬ (str (Oct.trim (s.extract f' s.size).data.toList)).toList = [] := by rw [str_toList]; exact he
            obtain ⟨t, ht⟩ : ∃ t, t = str (Oct.trim (s.extract f' s.size).data.toList) := ⟨_, rfl⟩
            rw [← ht] at hx1 hx2
            have HT := Lib.hid ht
            clear he ht
            go_wp2_with (first | (go_at_call 53; refine (rTrim_s (s.extract f' s.size) _ hcs).mono ?_; rw [← HT.out]; rintro r w' ⟨rfl, rfl⟩) | (at_builtin; refine appS hP _ hlen rfl _ _ rfl t HT.out rfl rfl ?_; intro v2 w2 hP2 _))
            go_roundw
            case rel => exact ⟨s.size + 1, s.size + 1, _, _, _, by omega, by go_num, rfl, rfl, by go_num, by have h := HA.out.last (s.size + 1) q e; rw [HM.out] at h; exact h, hP2⟩
            case measure => simp [intOf]
        have hc := (s[k']).toNat_lt
        have b0 : ((k' : Int) == (s.size : Int)) = false := beq_eq_false_iff_ne.2 (by omega)
        have HEQ := Lib.hid (HA.out.eq hend)
        cases e with
        | true =>
          obtain rfl : q = true := HEQ.out rfl
          by_cases h44 : (s[k'].toNat : Int) = 44
          · have HN2 := Lib.hid (HA.out.on hlt2 true false (Oct.nq_esc _ _) (.inl rfl) (fun h => absurd h (by simp)))
            have b44 : ((s[k'].toNat : Int) == 44) = true := beq_iff_eq.2 h44
            clear h44
            go_wp2_with fail
            go_roundw
            case rel => exact ⟨f', k' + 1, true, false, acc, by omega, rfl, rfl, rfl, by go_num, HN2, hP⟩
            case measure => simp [intOf]; omega
          · have HN2 := Lib.hid (HA.out.on hlt2 true false (Oct.nq_esc _ _) (.inl rfl) (fun h => absurd h (by simp)))
            have b44 : ((s[k'].toNat : Int) == 44) = false := beq_eq_false_iff_ne.2 h44
            go_wp2_with fail
            go_roundw
            case rel => exact ⟨f', k' + 1, true, false, acc, by omega, rfl, rfl, rfl, by go_num, HN2, hP⟩
            case measure => simp [intOf]; omega
        | false =>
          by_cases h44 : (s[k'].toNat : Int) = 44
          · cases q with
            | false =>
              have HN2 := Lib.hid (HA.out.cut hlt2 h44)
              have b44 : ((s[k'].toNat : Int) == 44) = true := beq_iff_eq.2 h44
              have b34 : ((s[k'].toNat : Int) == 34) = false := beq_eq_false_iff_ne.2 (by omega)
              have b92 : ((s[k'].toNat : Int) == 92) = false := beq_eq_false_iff_ne.2 (by omega)
              clear h44
              have hcs : (s.extract f' k').size ≤ 1000000 := by simp; omega
              by_cases he : Oct.trim (s.extract f' k').data.toList = []
              · have HM : Hid (Oct.emit (s.extract f' k').data.toList = []) := Oct.emit_no he
                have HS : Hid (str (Oct.trim (s.extract f' k').data.toList) = ⟨#[]⟩) := by rw [he]; rfl
                clear he
                go_wp2_with (go_at_call 53; refine (rTrim_s (s.extract f' k') _ hcs).mono ?_; rw [HS.out]; rintro r w' ⟨rfl, rfl⟩)
                go_roundw
                case rel => exact ⟨k' + 1, k' + 1, _, _, acc, by omega, by go_num, rfl, rfl, by go_num, by have h := HN2.out; rw [HM.out, List.append_nil] at h; exact h, hP⟩
                case measure => simp [intOf]; omega
              · have HM : Hid (Oct.emit (s.extract f' k').data.toList = [Oct.trim (s.extract f' k').data.toList]) := Oct.emit_yes he
                have hx1 : (str (Oct.trim (s.extract f' k').data.toList)).toList.isEmpty = false := by
                  rw [str_toList]; cases h : Oct.trim (s.extract f' k').data.toList with
                  | nil => exact absurd h he
                  | cons _ _ => rfl
                have hx2 : ¬ (str (Oct.trim (s.extract f' k').data.toList)).toList = [] := by rw [str_toList]; exact he
                obtain ⟨t, ht⟩ : ∃ t, t = str (Oct.trim (s.extract f' k').data.toList) := ⟨_, rfl⟩
                rw [← ht] at hx1 hx2
                have HT := Lib.hid ht
                clear he ht
                go_wp2_with (first | (go_at_call 53; refine (rTrim_s (s.extract f' k') _ hcs).mono ?_; rw [← HT.out]; rintro r w' ⟨rfl, rfl⟩) | (at_builtin; refine appS hP _ hlen rfl _ _ rfl t HT.out rfl rfl ?_; intro v2 w2 hP2 _))
                go_roundw
                case rel => exact ⟨k' + 1, k' + 1, _, _, _, by omega, by go_num, rfl, rfl, by go_num, by have h := HN2.out; rw [HM.out] at h; exact h, hP2⟩
                case measure => simp [intOf]; omega
            | true =>
              have HN2 := Lib.hid (HA.out.on hlt2 true false (Oct.nq_else _ _ (by omega) (by omega)) (.inl rfl) (fun h => absurd h (by simp)))
              have b44 : ((s[k'].toNat : Int) == 44) = true := beq_iff_eq.2 h44
              have b34 : ((s[k'].toNat : Int) == 34) = false := beq_eq_false_iff_ne.2 (by omega)
              have b92 : ((s[k'].toNat : Int) == 92) = false := beq_eq_false_iff_ne.2 (by omega)
              clear h44
              go_wp2_with fail
              go_roundw
              case rel => exact ⟨f', k' + 1, true, false, acc, by omega, rfl, rfl, rfl, by go_num, HN2, hP⟩
              case measure => simp [intOf]; omega
          by_cases h34 : (s[k'].toNat : Int) = 34
          · cases q with
            | false =>
              have HN2 := Lib.hid (HA.out.on hlt2 true false (Oct.nq_quote false _ h34) (.inl rfl) (fun _ => rfl))
              have b44 : ((s[k'].toNat : Int) == 44) = false := beq_eq_false_iff_ne.2 (by omega)
              have b34 : ((s[k'].toNat : Int) == 34) = true := beq_iff_eq.2 h34
              have b92 : ((s[k'].toNat : Int) == 92) = false := beq_eq_false_iff_ne.2 (by omega)
              clear h34
              go_wp2_with fail
              go_roundw
              case rel => exact ⟨f', k' + 1, true, false, acc, by omega, rfl, rfl, rfl, by go_num, HN2, hP⟩
              case measure => simp [intOf]; omega
            | true =>
              have HN2 := Lib.hid (HA.out.on hlt2 false false (Oct.nq_quote true _ h34) (.inr (by omega)) (fun h => h))
              have b44 : ((s[k'].toNat : Int) == 44) = false := beq_eq_false_iff_ne.2 (by omega)
              have b34 : ((s[k'].toNat : Int) == 34) = true := beq_iff_eq.2 h34
              have b92 : ((s[k'].toNat : Int) == 92) = false := beq_eq_false_iff_ne.2 (by omega)
              clear h34
              go_wp2_with fail
              go_roundw
              case rel => exact ⟨f', k' + 1, false, false, acc, by omega, rfl, rfl, rfl, by go_num, HN2, hP⟩
              case measure => simp [intOf]; omega
          by_cases h92 : (s[k'].toNat : Int) = 92
          · cases q with
            | false =>
              have HN2 := Lib.hid (HA.out.on hlt2 false false (Oct.nq_out _ (by omega)) (.inr (by omega)) (fun h => h))
              have b44 : ((s[k'].toNat : Int) == 44) = false := beq_eq_false_iff_ne.2 (by omega)
              have b34 : ((s[k'].toNat : Int) == 34) = false := beq_eq_false_iff_ne.2 (by omega)
              have b92 : ((s[k'].toNat : Int) == 92) = true := beq_iff_eq.2 h92
              clear h92
              go_wp2_with fail
              go_roundw
              case rel => exact ⟨f', k' + 1, false, false, acc, by omega, rfl, rfl, rfl, by go_num, HN2, hP⟩
              case measure => simp [intOf]; omega
            | true =>
              have HN2 := Lib.hid (HA.out.on hlt2 true true (Oct.nq_mark _ h92) (.inl rfl) (fun h => h))
              have b44 : ((s[k'].toNat : Int) == 44) = false := beq_eq_false_iff_ne.2 (by omega)
              have b34 : ((s[k'].toNat : Int) == 34) = false := beq_eq_false_iff_ne.2 (by omega)
              have b92 : ((s[k'].toNat : Int) == 92) = true := beq_iff_eq.2 h92
              clear h92
              go_wp2_with fail
              go_roundw
              case rel => exact ⟨f', k' + 1, true, true, acc, by omega, rfl, rfl, rfl, by go_num, HN2, hP⟩
              case measure => simp [intOf]; omega
          cases q with
          | false =>
            have HN2 := Lib.hid (HA.out.on hlt2 false false (Oct.nq_else _ _ h34 h92) (.inr h44) (fun h => h))
            have b44 : ((s[k'].toNat : Int) == 44) = false := beq_eq_false_iff_ne.2 (by omega)
            have b34 : ((s[k'].toNat : Int) == 34) = false := beq_eq_false_iff_ne.2 (by omega)
            have b92 : ((s[k'].toNat : Int) == 92) = false := beq_eq_false_iff_ne.2 (by omega)
            clear h44 h34 h92
            go_wp2_with fail
            go_roundw
            case rel => exact ⟨f', k' + 1, false, false, acc, by omega, rfl, rfl, rfl, by go_num, HN2, hP⟩
            case measure => simp [intOf]; omega
          | true =>
            have HN2 := Lib.hid (HA.out.on hlt2 true false (Oct.nq_else _ _ h34 h92) (.inr h44) (fun h => absurd h (by simp)))
            have b44 : ((s[k'].toNat : Int) == 44) = false := beq_eq_false_iff_ne.2 (by omega)
            have b34 : ((s[k'].toNat : Int) == 34) = false := beq_eq_false_iff_ne.2 (by omega)
            have b92 : ((s[k'].toNat : Int) == 92) = false := beq_eq_false_iff_ne.2 (by omega)
            clear h44 h34 h92
            go_wp2_with fail
            go_roundw
            case rel => exact ⟨f', k' + 1, true, false, acc, by omega, rfl, rfl, rfl, by go_num, HN2, hP⟩
            case measure => simp [intOf]; omega
    · obtain rfl : k = n := by omega
      have HTA : Hid (ls.take k = ls) := List.take_of_length_le (by have := HN.out; omega)
      go_wp2_with fail
      go_ret
      exact ⟨_, rfl, by rw [HTA.out] at hP; exact hP⟩
end Go.Proofs.YtoanelobggledaaGreatDoor

namespace Go.Proofs.YtoanelobggledaaGreatDoor
open Go.RowKit

theorem SIn.one (w : World) (s : ByteArray) (l : List UInt8) (h : s = str l) : SIn (w.alloc (.cells #[.string s] 9)) (.slice (some ⟨w.heap.size, 0, none⟩) 1 1) [l] := by
  refine ⟨_, 1, rfl, .inr ⟨w.heap.size, 0, rfl, by simp, fun j hj => ?_⟩⟩
  match j, hj with
  | 0, _ => rw [World.cell?_alloc_at _ _ _ _ rfl, h]; rfl
theorem SIn.two (w : World) (s t : ByteArray) (l m : List UInt8) (h : s = str l) (h' : t = str m) : SIn (w.alloc (.cells #[.string s, .string t] 9)) (.slice (some ⟨w.heap.size, 0, none⟩) 2 2) [l, m] := by
  refine ⟨_, 2, rfl, .inr ⟨w.heap.size, 0, rfl, by simp, fun j hj => ?_⟩⟩
  match j, hj with
  | 0, _ => rw [World.cell?_alloc_at _ _ _ _ rfl, h]; rfl
  | 1, _ => rw [World.cell?_alloc_at _ _ _ _ rfl, h']; rfl
end Go.Proofs.YtoanelobggledaaGreatDoor

namespace Go.Proofs.YtoanelobggledaaGreatDoor
open Go.RowKit

theorem bt {a b c : World} (h : Below a.heap.size a b) (h' : Below b.heap.size b c) : Below a.heap.size a c := h.trans (h'.mono h.size)
end Go.Proofs.YtoanelobggledaaGreatDoor

namespace Go.Proofs.YtoanelobggledaaGreatDoor
open Go.RowKit

theorem app_list (a b : ByteArray) : (a ++ b).data.toList = a.data.toList ++ b.data.toList := by
  rw [ByteArray.data_append, Array.toList_append]
end Go.Proofs.YtoanelobggledaaGreatDoor

namespace Go.Proofs.YtoanelobggledaaGreatDoor
open Go.RowKit

end Go.Proofs.YtoanelobggledaaGreatDoor

namespace Go.Proofs.YtoanelobggledaaGreatDoor
open Go.RowKit

end Go.Proofs.YtoanelobggledaaGreatDoor

namespace Go.Proofs.YtoanelobggledaaGreatDoor
open Go.RowKit

end Go.Proofs.YtoanelobggledaaGreatDoor

namespace Go.Proofs.YtoanelobggledaaGreatDoor
open Go.RowKit

set_option maxHeartbeats 400000 in
theorem pow2_16 (w : World) : Calls Tryz.prog 262 #[.int .i64 16] w fun e w' => e = .returned (.bool true) ∧ w = w' := by
  go_enter Tryz.func262, Tryz.ntmps262
  go_wp2
  go_ret
  exact ⟨rfl, rfl⟩
theorem tz_16 (w : World) (hT : TabAt 9 Lib.deBruijn64tab w) : Calls Tryz.prog 263 #[.int .u64 16] w fun e w' => e = .returned (.int .i64 4) ∧ w = w' := by
  have h := Any7.bits_TrailingZeros Tryz.lays7x27 16 (by decide) w (fun _ => hT)
  have e : Lib.ctz 64 16 = 4 := by decide +kernel
  rw [e] at h
  exact h.mono (by rintro e w' ⟨rfl, rfl⟩; exact ⟨rfl, rfl⟩)
theorem and15 (v : Nat) (h : v < 18446744073709551616) : bits BinOp.and IntKind.u64 (v : Int) 15 = ((v % 16 : Nat) : Int) := by
  have := bits_and_u64_nat v 15 h (by decide)
  rw [show (v &&& 15) = v % 16 from Nat.and_two_pow_sub_one_eq_mod v 4] at this
  exact this
def Tail (w : World) (A : Nat) (tl : List UInt8) : Prop := ∃ C, w.heap[A]? = some (.cells C 240 (0, 0)) ∧ C.size = 65 ∧ C.toList.drop (65 - tl.length) = Lib.byteCells tl
theorem Tail.cell {w : World} {A : Nat} {tl : List UInt8} (h : Tail w A tl) (j : Nat) (hj : j < 65) : (∃ v, w.cell? ⟨A, j, none⟩ = some v) ∧ w.frozen? ⟨A, j, none⟩ = false := by
  obtain ⟨C, h1, h2, _⟩ := h
  constructor
  · simp only [World.cell?, h1]
    exact ⟨C[j]'(by omega), by simp [h2, hj]⟩
  · simp only [World.frozen?, h1]; simp
theorem Tail.add {w : World} {A : Nat} {tl : List UInt8} (h : Tail w A tl) (j : Nat) (hj : j + 1 + tl.length = 65) (c : UInt8) : Tail (w.setCell ⟨A, j, none⟩ (.int .u8 c.toNat)) A (c :: tl) := by
  obtain ⟨C, h1, h2, h3⟩ := h
  have hlt := lt_of_block h1
  refine ⟨C.setIfInBounds j (.int .u8 c.toNat), ?_, by simp [h2], ?_⟩
  · show (w.heap.modify A _)[A]? = _
    have h' : w.heap[A] = .cells C 240 (0, 0) := by simpa [Array.getElem?_eq_getElem hlt] using h1
    rw [Array.getElem?_eq_getElem (by simpa using hlt), Array.getElem_modify_self, h']
    rfl
  · rw [List.length_cons, show 65 - (tl.length + 1) = j by omega, Array.toList_setIfInBounds]
    have hl : C.toList.length = 65 := by simpa using h2
    rw [List.drop_set, if_neg (by omega), Nat.sub_self, List.drop_eq_getElem_cons (by omega), List.set_cons_zero, show j + 1 = 65 - tl.length by omega, h3]
    simp [Lib.byteCells]
theorem Tail.read {w : World} {A : Nat} {tl : List UInt8} (h : Tail w A tl) (j : Nat) (hj : j + tl.length = 65) (i : Nat) (hi : i < tl.length) : w.cell? (Addr.add ⟨A, j, none⟩ i) = some (.int .u8 (tl[i].toNat : Int)) := by
  obtain ⟨C, h1, h2, h3⟩ := h
  have h5 : C.toList[j + i]? = some (.int .u8 (tl[i].toNat : Int)) := by
    have h6 : (C.toList.drop (65 - tl.length))[i]? = (Lib.byteCells tl)[i]? := by rw [h3]
    rw [List.getElem?_drop, show 65 - tl.length = j by omega] at h6
    rw [h6]; simp [Lib.byteCells, hi]
  rw [Addr.add_lit]
  simp only [World.cell?, h1]
  simpa using h5
theorem Tail.start (w : World) : Tail (w.alloc (.cells Tryz.zeroCells240 240)) w.heap.size [] := by
  refine ⟨_, heap_alloc_new w _, by kernel_rfl, ?_⟩
  have : Tryz.zeroCells240.toList.length = 65 := by kernel_rfl
  rw [List.drop_of_length_le (by rw [this]; decide)]; rfl
theorem slice_tail (A j : Nat) (l : Int) (hl : l = (j : Int)) (hj : j < 65) (n m : Nat) (hn : n = 65 - j) (hm : m = 65 - j) (w : World) :
    (Instr.sliceAt 240 (.pointer (some ⟨A, 0, none⟩)) (some (.int .i64 l)) none none).run Tryz.prog w = .ok (.slice (some ⟨A, j, none⟩) n m) w := by
  have ha : Tryz.prog.arrayLen 240 = 65 := by kernel_rfl
  have hz : ((sizeOf (Tryz.prog.elem 240)).run Tryz.prog w) = .ok 1 w := by kernel_rfl
  subst hl hn hm
  rw [run_sliceAt_array_l w _ _ (by kernel_rfl) .i64 (j : Int) (by omega) (by rw [ha]; omega), hz, ha]
  simp only [Result.andThen, slicedAt, Int.toNat_natCast]
  rw [if_neg (by omega), Addr.add_lit]
  simp
set_option maxHeartbeats 1600000 in
set_option maxRecDepth 100000 in
theorem bits16 (u : Nat) (w : World) (hu : u < 9223372036854775808) (hT : ∀ w', TabAt 9 Lib.deBruijn64tab (w.alloc w')) :
    Calls Tryz.prog 249 #[.slice none 0 0, .int .u64 u, .int .i64 16, .bool false, .bool false] w fun e w' => e = .returned (.tuple #[.slice none 0 0, .string (str (Oct.dgs 16 u))]) ∧ Below w.heap.size w w' := by
  have hS := Tail.start w
  have hB : Below w.heap.size w (w.alloc (.cells Tryz.zeroCells240 240)) := (Below.refl _ w).alloc (Nat.le_refl _) _
  go_enter Tryz.func249, Tryz.ntmps249
  go_wp2_with (first | (go_at_call 262; refine (pow2_16 _).mono ?_; rintro e w1 ⟨rfl, rfl⟩) | (go_at_call 263; refine (tz_16 _ (hT _)).mono ?_; rintro e w1 ⟨rfl, rfl⟩))
  go_loopw [1, 13] (fun x i wr => ∃ (v j : Nat) (tl : List UInt8), x = .int .u64 v ∧ i = .int .i64 j ∧ j + tl.length = 65 ∧ v ≤ u ∧ Hid (tl.length ≤ 15 ∧ v < 16 ^ (16 - tl.length)) ∧ Hid (Oct.dgs 16 u = Oct.dgs 16 v ++ tl) ∧ Tail wr w.heap.size tl ∧ Below w.heap.size w wr) (fun x _ _ => (intOf x).toNat)
  case atStart => exact ⟨u, 65, [], rfl, rfl, rfl, Nat.le_refl _, ⟨by decide, by show u < 16 ^ 16; omega⟩, by rw [List.append_nil]; rfl, hS, hB⟩
  case round =>
    clear hS hB
    obtain ⟨v, j, tl, rfl, rfl, hj, hvu, HV, HD, hS, hB⟩ := hrel
    have h15 := HV.out.1
    by_cases hlt : 16 ≤ v
    · have hA := and15 v (by omega)
      have h14 : Hid (tl.length + 1 ≤ 15 ∧ v / 16 < 16 ^ (16 - (tl.length + 1))) := Oct.step16 hlt HV.out
      obtain ⟨⟨old, hcell⟩, hfz⟩ := hS.cell (j - 1) (by omega)
      have hr : v % 16 < 16 := Nat.mod_lt _ (by decide)
      go_wp2_with fail
      go_roundw
      case rel => exact ⟨v / 16, j - 1, Oct.ch (v % 16) :: tl, by go_num, by go_num, by simp; omega, by omega, h14, by rw [HD.out, Oct.dgs_more (by decide) hlt]; simp [Hid], by rw [Oct.ch_at _ hr]; exact hS.add (j - 1) (by omega) _, hB.setCell (Nat.le_refl _) _⟩
      case measure => simp [intOf]; omega
    · obtain ⟨⟨old, hcell⟩, hfz⟩ := hS.cell (j - 1) (by omega)
      have hx := Oct.ch_at v (by omega) (hb := by show v < 36; omega)
      have hF : Hid (Oct.dgs 16 u = Oct.ch v :: tl) := by rw [HD.out, Oct.dgs_last (by omega)]; rfl
      have hS2 := hS.add (j - 1) (by omega) (Oct.ch v)
      have hcv := run_convert_bytes_back (P := Tryz.prog) (wr.setCell ⟨w.heap.size, j - 1, none⟩ (.int .u8 (Oct.ch v).toNat)) 25 9 5 ⟨w.heap.size, j - 1, none⟩ (65 - (j - 1)) (Oct.ch v :: tl) Tryz.underlying25 Tryz.underlying5 Tryz.underlying9 (fun i hi => hS2.read (j - 1) (by simp; omega) i hi)
      have hsl := slice_tail w.heap.size (j - 1) ((j : Int) - 1) (by omega) (by omega) (Oct.ch v :: tl).length (65 - (j - 1)) (by simp; omega) rfl
      generalize (Oct.ch v :: tl).length = n at hcv hsl
      generalize 65 - (j - 1) = m at hcv hsl
      go_wp2_with fail
      go_ret2
      exact ⟨by rw [hF.out]; rfl, hB.setCell (Nat.le_refl _) _⟩
end Go.Proofs.YtoanelobggledaaGreatDoor

namespace Go.Proofs.YtoanelobggledaaGreatDoor
open Go.RowKit

theorem below_grow (w : World) (k : Nat) (os : Array Obj) : Below w.heap.size w (Sort.grow (w.drewN k) os) := by
  refine ⟨rfl, rfl, rfl, ?_, fun i hi => ?_⟩
  · show w.heap.size ≤ (w.heap ++ os).size; simp
  · show (w.heap ++ os)[i]? = _; rw [Array.getElem?_append_left hi]
theorem tab_alloc {g : Nat} {tab : List Nat} {w : World} (h : TabAt g tab w) (o : Obj) : TabAt g tab (w.alloc o) := fun j hj => by
  have h1 := h j hj
  have := World.block_lt_of_cell? w _ h1
  rw [World.cell?_alloc_past _ _ _ this]; exact h1
set_option maxHeartbeats 400000 in
theorem formatInt16 (u : Nat) (w : World) (hu : u < 9223372036854775808) (hT : TabAt 9 Lib.deBruijn64tab w) :
    Calls Tryz.prog 202 #[.int .i64 u, .int .i64 16] w fun e w' => e = .returned (.string (str (Oct.dgs 16 u))) ∧ Below w.heap.size w w' := by
  have hB := bits16 u w hu (fun o => tab_alloc hT o)
  have HB := Lib.hid hB
  clear hB hT
  have hn : ¬ (u : Int) < 0 := by omega
  have e55 : Calls Tryz.prog 230 #[.int .i64 u, .int .i64 16] w fun e w' => e = .returned (.string (str (Oct.dgs 16 u))) ∧ Below w.heap.size w w' := by
    go_enter Tryz.func230, Tryz.ntmps230
    go_wp2_with fail
    refine HB.out.mono ?_
    rintro e w1 ⟨rfl, hb⟩
    go_wp2_with fail
    go_ret
    exact ⟨rfl, hb⟩
  have HE := Lib.hid e55
  clear e55 HB
  go_enter Tryz.func202, Tryz.ntmps202
  go_wp2_with fail
  refine HE.out.mono ?_
  rintro e w1 ⟨rfl, hb⟩
  go_wp2_with fail
  go_ret
  exact ⟨rfl, hb⟩
theorem formatInt10 (u : Nat) (w : World) (hu : u < 9223372036854775808) (hT : Lib.TabIs Tryz.prog w "internal/strconv.uint64pow10" .u64 Lib.pow10Tab) :
    Calls Tryz.prog 202 #[.int .i64 u, .int .i64 10] w fun e w' => e = .returned (.string (str (Oct.dgs 10 u))) ∧ Below w.heap.size w w' := by
  refine (Tryz.strconv_FormatInt_10 (u : Int) (by omega) (by omega) w hT).mono ?_
  rintro e w' ⟨rfl, k, os, rfl⟩
  refine ⟨?_, below_grow w k os⟩
  have : Lib.itoa (u : Int) = Oct.dgs 10 u := by
    unfold Lib.itoa; rw [if_neg (by omega), Int.toNat_natCast, Oct.dgs_dec]
  rw [this]; rfl
def Tabs (w : World) : Prop := TabAt 9 Lib.deBruijn64tab w ∧ Lib.TabIs Tryz.prog w "internal/strconv.uint64pow10" .u64 Lib.pow10Tab
set_option maxHeartbeats 800000 in
theorem Print_s (n b : Int) (w : World) (hn : n ≤ 9223372036854775807) (hT : Tabs w) :
    Calls Tryz.prog 155 #[.int .i64 n, .int .i64 b] w fun e w' => e = .returned (.string (str (Oct.print n b))) ∧ Below w.heap.size w w' := by
  obtain ⟨m, hm⟩ : ∃ m : Nat, m = n.toNat := ⟨_, rfl⟩
  have hmax : max n 0 = (m : Int) := by omega
  have hm2 : m < 9223372036854775808 := by omega
  have HM := Lib.hid hm
  clear hm
  by_cases hb : b = 16
  · subst hb
    have HP : Hid (Oct.print n 16 = Oct.dgs 16 m) := by unfold Oct.print Oct.base; rw [if_pos rfl, HM.out]; rfl
    go_enter Tryz.func155, Tryz.ntmps155
    go_wp2_with fail
    refine (formatInt16 m w hm2 hT.1).mono ?_
    rintro e w1 ⟨rfl, hb⟩
    go_wp2_with fail
    go_ret
    exact ⟨ret_str (by rw [HP.out]), hb⟩
  · have HP : Hid (Oct.print n b = Oct.dgs 10 m) := by unfold Oct.print Oct.base; rw [if_neg hb, HM.out]; rfl
    have b1 : (b != 16) = true := by rw [bne, beq_eq_false_iff_ne.2 hb]; rfl
    have b2 : (b == 16) = false := beq_eq_false_iff_ne.2 hb
    clear hb
    go_enter Tryz.func155, Tryz.ntmps155
    go_wp2_with fail
    refine (formatInt10 m w hm2 hT.2).mono ?_
    rintro e w1 ⟨rfl, hb⟩
    go_wp2_with fail
    go_ret
    exact ⟨ret_str (by rw [HP.out]), hb⟩
theorem str_cons (c : UInt8) (x : ByteArray) : str [c] ++ x = str (c :: x.data.toList) := by
  have : (str [c] ++ x).data.toList = c :: x.data.toList := by rw [app_list, str_list]; rfl
  rw [← this, str_of]
set_option maxHeartbeats 1600000 in
set_option maxRecDepth 100000 in
theorem rPrint10 (n c : Int) (w : World) (hn : n ≤ 9223372036854775807) (hc : ¬ c = 16) :
    Calls Tryz.prog 170 #[.int .i64 n, .int .i64 c] w fun e w' => e = .returned (.string (str (Oct.print n c))) ∧ Below w.heap.size w w' := by
  obtain ⟨N, hN⟩ : ∃ N : Nat, N = n.toNat := ⟨_, rfl⟩
  have hN2 : N < 9223372036854775808 := by omega
  have HP : Hid (Oct.print n c = Oct.dgs 10 N) := by unfold Oct.print Oct.base; rw [if_neg hc, hN]; rfl
  have HL : Hid ((Oct.dgs 10 N).length ≤ 100) := Oct.dgs_len10 N (by omega)
  have b1 : (c != 16) = true := by rw [bne, beq_eq_false_iff_ne.2 hc]; rfl
  have b2 : (c == 16) = false := beq_eq_false_iff_ne.2 hc
  clear hc
  by_cases hneg : n < 0
  · have hN0 : N = 0 := by omega
    clear hN
    go_enter Tryz.func170, Tryz.ntmps170
    go_wp2_with fail
    refine wp_loop_rounds 1 ?_
    rw [rounds_succ]
    have hcv := (Buf.one (Below.refl w.heap.size w) (Oct.ch 0) 48 rfl).string
    have HF : Hid (str [Oct.ch 0] ++ (⟨#[]⟩ : ByteArray) = str (Oct.dgs 10 N)) := by rw [str_cons, hN0, Oct.dgs_last (by decide)]; rfl
    clear hN0
    go_wp2_with fail
    go_ret
    exact ⟨ret_str (by rw [HF.out, HP.out]), (Below.refl _ _).alloc (Nat.le_refl _) _⟩
  have hnN : n = (N : Int) := by omega
  subst hnN
  clear hN
  go_enter Tryz.func170, Tryz.ntmps170
  go_wp2_with fail
  go_loopw [0, 5] (fun y s wr => ∃ (v : Nat) (x : ByteArray), y = .int .i64 v ∧ s = .string x ∧ v < 9223372036854775808 ∧ Hid (Oct.dgs 10 N = Oct.dgs 10 v ++ x.data.toList) ∧ Below w.heap.size w wr) (fun y _ _ => (intOf y).toNat)
  case atStart => exact ⟨N, ⟨#[]⟩, rfl, rfl, hN2, by rw [show (⟨#[]⟩ : ByteArray).data.toList = [] from rfl, List.append_nil]; rfl, Below.refl _ _⟩
  case round =>
    obtain ⟨v, x, rfl, rfl, hv, HD, hB⟩ := hrel
    have hxs : x.size ≤ 100 := by
      have h1 : (Oct.dgs 10 N).length ≤ 100 := HL.out
      rw [HD.out, List.length_append, Oct.length_size] at h1; omega
    have hss : (str [Oct.ch (v % 10)]).size = 1 := str_size _
    have hcv := (Buf.one (Below.refl wr.heap.size wr) (Oct.ch (v % 10)) (48 + (v : Int) % 10) (Oct.ch_is48 10 v (Nat.mod_lt _ (by decide)))).string
    by_cases hz : v < 10
    · have b0 : ((v : Int) / 10 == 0) = true := beq_iff_eq.2 (by omega)
      have HF : Hid (str [Oct.ch (v % 10)] ++ x = str (Oct.dgs 10 N)) := by
        rw [str_cons, HD.out, Oct.dgs_last hz, Nat.mod_eq_of_lt hz]; rfl
      go_wp2_with fail
      go_ret
      exact ⟨ret_str (by rw [HF.out, HP.out]), hB.alloc hB.size _⟩
    · have b0 : ((v : Int) / 10 == 0) = false := beq_eq_false_iff_ne.2 (by omega)
      have HF : Hid (Oct.dgs 10 N = Oct.dgs 10 (v / 10) ++ (str [Oct.ch (v % 10)] ++ x).data.toList) := by
        rw [HD.out, Oct.dgs_more (by decide) (by omega), str_cons, str_list]; simp [Hid]
      go_wp2_with fail
      go_roundw
      case rel => exact ⟨v / 10, _, by go_num, rfl, by omega, HF, hB.alloc hB.size _⟩
      case measure => simp [intOf]; omega
set_option maxHeartbeats 1600000 in
set_option maxRecDepth 100000 in
theorem rPrint16 (n c : Int) (w : World) (hn : n ≤ 9223372036854775807) (hc : c = 16) :
    Calls Tryz.prog 170 #[.int .i64 n, .int .i64 c] w fun e w' => e = .returned (.string (str (Oct.print n c))) ∧ Below w.heap.size w w' := by
  obtain ⟨N, hN⟩ : ∃ N : Nat, N = n.toNat := ⟨_, rfl⟩
  have hN2 : N < 9223372036854775808 := by omega
  have HP : Hid (Oct.print n c = Oct.dgs 16 N) := by unfold Oct.print Oct.base; rw [if_pos hc, hN]; rfl
  have HL : Hid ((Oct.dgs 16 N).length ≤ 100) := Oct.dgs_len16 N (by omega)
  subst hc
  by_cases hneg : n < 0
  · have hN0 : N = 0 := by omega
    clear hN
    go_enter Tryz.func170, Tryz.ntmps170
    go_wp2_with fail
    refine wp_loop_rounds 1 ?_
    rw [rounds_succ]
    have hcv := (Buf.one (Below.refl w.heap.size w) (Oct.ch 0) 48 rfl).string
    have HF : Hid (str [Oct.ch 0] ++ (⟨#[]⟩ : ByteArray) = str (Oct.dgs 16 N)) := by rw [str_cons, hN0, Oct.dgs_last (by decide)]; rfl
    clear hN0
    go_wp2_with fail
    go_ret
    exact ⟨ret_str (by rw [HF.out, HP.out]), (Below.refl _ _).alloc (Nat.le_refl _) _⟩
  have hnN : n = (N : Int) := by omega
  subst hnN
  clear hN
  go_enter Tryz.func170, Tryz.ntmps170
  go_wp2_with fail
  go_loopw [0, 5] (fun y s wr => ∃ (v : Nat) (x : ByteArray), y = .int .i64 v ∧ s = .string x ∧ v < 9223372036854775808 ∧ Hid (Oct.dgs 16 N = Oct.dgs 16 v ++ x.data.toList) ∧ Below w.heap.size w wr) (fun y _ _ => (intOf y).toNat)
  case atStart => exact ⟨N, ⟨#[]⟩, rfl, rfl, hN2, by rw [show (⟨#[]⟩ : ByteArray).data.toList = [] from rfl, List.append_nil]; rfl, Below.refl _ _⟩
  case round =>
    obtain ⟨v, x, rfl, rfl, hv, HD, hB⟩ := hrel
    have hxs : x.size ≤ 100 := by
      have h1 : (Oct.dgs 16 N).length ≤ 100 := HL.out
      rw [HD.out, List.length_append, Oct.length_size] at h1; omega
    have hss : (str [Oct.ch (v % 16)]).size = 1 := str_size _
    by_cases h10 : v % 16 < 10
    · have h10' : (v : Int) % 16 < 10 := by omega
      have hcv := (Buf.one (Below.refl wr.heap.size wr) (Oct.ch (v % 16)) (48 + (v : Int) % 16) (Oct.ch_is48 16 v h10)).string
      by_cases hz : v < 16
      · have b0 : ((v : Int) / 16 == 0) = true := beq_iff_eq.2 (by omega)
        have HF : Hid (str [Oct.ch (v % 16)] ++ x = str (Oct.dgs 16 N)) := by
          rw [str_cons, HD.out, Oct.dgs_last hz, Nat.mod_eq_of_lt hz]; rfl
        go_wp2_with fail
        go_ret
        exact ⟨ret_str (by rw [HF.out, HP.out]), hB.alloc hB.size _⟩
      · have b0 : ((v : Int) / 16 == 0) = false := beq_eq_false_iff_ne.2 (by omega)
        have HF : Hid (Oct.dgs 16 N = Oct.dgs 16 (v / 16) ++ (str [Oct.ch (v % 16)] ++ x).data.toList) := by
          rw [HD.out, Oct.dgs_more (by decide) (by omega), str_cons, str_list]; simp [Hid]
        go_wp2_with fail
        go_roundw
        case rel => exact ⟨v / 16, _, by go_num, rfl, by omega, HF, hB.alloc hB.size _⟩
        case measure => simp [intOf]; omega
    · have h10' : (10 : Int) ≤ (v : Int) % 16 := by omega
      have hcv := (Buf.one (Below.refl wr.heap.size wr) (Oct.ch (v % 16)) (87 + (v : Int) % 16) (Oct.ch_is87 16 v (by omega))).string
      by_cases hz : v < 16
      · have b0 : ((v : Int) / 16 == 0) = true := beq_iff_eq.2 (by omega)
        have HF : Hid (str [Oct.ch (v % 16)] ++ x = str (Oct.dgs 16 N)) := by
          rw [str_cons, HD.out, Oct.dgs_last hz, Nat.mod_eq_of_lt hz]; rfl
        go_wp2_with fail
        go_ret
        exact ⟨ret_str (by rw [HF.out, HP.out]), hB.alloc hB.size _⟩
      · have b0 : ((v : Int) / 16 == 0) = false := beq_eq_false_iff_ne.2 (by omega)
        have HF : Hid (Oct.dgs 16 N = Oct.dgs 16 (v / 16) ++ (str [Oct.ch (v % 16)] ++ x).data.toList) := by
          rw [HD.out, Oct.dgs_more (by decide) (by omega), str_cons, str_list]; simp [Hid]
        go_wp2_with fail
        go_roundw
        case rel => exact ⟨v / 16, _, by go_num, rfl, by omega, HF, hB.alloc hB.size _⟩
        case measure => simp [intOf]; omega
end Go.Proofs.YtoanelobggledaaGreatDoor

namespace Go.Proofs.YtoanelobggledaaGreatDoor
open Go.RowKit

theorem Tabs.later {w w' : World} (h : Tabs w) (hb : Below w.heap.size w w') : Tabs w' := by
  refine ⟨fun j hj => ?_, ?_⟩
  · have h1 := h.1 j hj
    rw [hb.cell (p := ⟨9, j, none⟩) (World.block_lt_of_cell? w _ h1)]; exact h1
  · have hg : Tryz.prog.globalNamed "internal/strconv.uint64pow10" = some 6 := by kernel_rfl
    have h1 := h.2.cell hg 0 (by decide)
    exact var?_below hb hg (World.block_lt_of_cell? w _ h1) h.2
theorem rPrint_is (n b : Int) (x : ByteArray) (w : World) (hn : n ≤ 9223372036854775807) (h : str (Oct.print n b) = x) :
    Calls Tryz.prog 170 #[.int .i64 n, .int .i64 b] w fun e w' => e = .returned (.string x) ∧ Below w.heap.size w w' := by
  subst h
  by_cases hb : b = 16
  · exact rPrint16 n b w hn hb
  · exact rPrint10 n b w hn hb
theorem Number_is (s : ByteArray) (most a e : Int) (w : World) (hs : s.size ≤ 1000000) (hm1 : -9223372036854775808 ≤ most) (hm2 : most ≤ 9223372036854775807) (h : Oct.number 10 most s.data.toList = (a, e)) :
    Calls Tryz.prog 176 #[.string s, .int .i64 most] w fun r w' => r = .returned (.tuple #[.int .i64 a, .int .i64 e]) ∧ Below w.heap.size w w' := by
  have := Number_s s most w hs hm1 hm2; rw [h] at this; exact this
theorem Hex_is (s : ByteArray) (most a e : Int) (w : World) (hs : s.size ≤ 1000000) (hm1 : -9223372036854775808 ≤ most) (hm2 : most ≤ 9223372036854775807) (h : Oct.number 16 most s.data.toList = (a, e)) :
    Calls Tryz.prog 206 #[.string s, .int .i64 most] w fun r w' => r = .returned (.tuple #[.int .i64 a, .int .i64 e]) ∧ Below w.heap.size w w' := by
  have := Hex_s s most w hs hm1 hm2; rw [h] at this; exact this
theorem rNumber_is (s : ByteArray) (most a e : Int) (w : World) (hs : s.size ≤ 1000000) (hm1 : -9223372036854775808 ≤ most) (hm2 : most ≤ 9223372036854775807) (h : Oct.number 10 most s.data.toList = (a, e)) :
    Calls Tryz.prog 145 #[.string s, .int .i64 10, .int .i64 most] w fun r w' => r = .returned (.tuple #[.int .i64 a, .int .i64 e]) ∧ w = w' := by
  have := rNumber10 s most w hs hm1 hm2; rw [h] at this; exact this
theorem rHex_is (s : ByteArray) (most a e : Int) (w : World) (hs : s.size ≤ 1000000) (hm1 : -9223372036854775808 ≤ most) (hm2 : most ≤ 9223372036854775807) (h : Oct.number 16 most s.data.toList = (a, e)) :
    Calls Tryz.prog 145 #[.string s, .int .i64 16, .int .i64 most] w fun r w' => r = .returned (.tuple #[.int .i64 a, .int .i64 e]) ∧ w = w' := by
  have := rNumber16 s most w hs hm1 hm2; rw [h] at this; exact this
end Go.Proofs.YtoanelobggledaaGreatDoor

namespace Go.Proofs.YtoanelobggledaaGreatDoor
open Go.RowKit

end Go.Proofs.YtoanelobggledaaGreatDoor

