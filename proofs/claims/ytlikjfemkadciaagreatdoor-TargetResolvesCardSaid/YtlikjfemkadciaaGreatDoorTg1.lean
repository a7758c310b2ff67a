/- Package target: octets of sets, what stands ahead, ports, hosts. -/
import Derived.Test.YtlikjfemkadciaaGreatDoorOctBase
import Derived.Test.YtlikjfemkadciaaGreatDoorShelf
import Derived.Test.YtlikjfemkadciaaGreatDoorQuiet
import Derived.Test.YtlikjfemkadciaaGreatDoorTgMathD
import Derived.Deep.DeepCutAuto
namespace Go.Proofs.YtlikjfemkadciaaGreatDoor
open Go.RowKit

/-- The library's variable of the longest separator holds some number. -/
def MaxOk (w : World) : Prop := ∃ m, w.cell? ⟨0, 0, none⟩ = some (.int .i64 m)
theorem MaxOk.later {w w' : World} (h : MaxOk w) (hb : Below w.heap.size w w') : MaxOk w' := by
  obtain ⟨m, h⟩ := h
  exact ⟨m, (hb.cell (p := ⟨0, 0, none⟩) (World.block_lt_of_cell? w _ h)).trans h⟩
theorem str_same {a : ByteArray} {l : List UInt8} (h : a.data.toList = l) : a = str l := by rw [← h, str_of]
theorem app_data (a b : ByteArray) : (a ++ b).data.toList = a.data.toList ++ b.data.toList := by simp
theorem bt' {a b c : World} (h : Below a.heap.size a b) (h' : Below b.heap.size b c) : Below a.heap.size a c := h.trans (h'.mono h.size)
theorem quiet {f : FuncId} {args : Array Value} {r : Ending} {W : World} (n : Nat) (h : Calls Tryz.prog f args (W.drewN n) fun e w' => e = r ∧ W.drewN n = w') : Calls Tryz.prog f args (W.drewN n) fun e w' => e = r ∧ ∃ m, w' = W.drewN m :=
  h.mono (by rintro e w' ⟨he, rfl⟩; exact ⟨he, n, rfl⟩)
theorem byte_back (c : UInt8) : ((c.toNat : Int)).toNat.toUInt8 = c := by simp
theorem SIn.lits {w : World} (ss : List ByteArray) (ls : List (List UInt8)) (h : ss.map (·.data.toList) = ls) (n : Nat) (hn : n = ls.length) :
    SIn (w.alloc (.cells (ss.map Value.string).toArray 9)) (.slice (some ⟨w.heap.size, 0, none⟩) n n) ls := by
  subst hn h
  refine ⟨_, _, rfl, .inr ⟨_, _, rfl, by simp, fun j hj => ?_⟩⟩
  rw [World.cell?_alloc_at _ _ _ _ (by rfl)]
  simp at hj ⊢
  simp [hj, str_of]

/-- One of the sets has the octet. -/
def inSets (ls : List (List UInt8)) (c : UInt8) : Bool := ls.any (·.contains c)
theorem inSets_snoc (ls : List (List UInt8)) (k : Nat) (h : k < ls.length) (c : UInt8) : inSets (ls.take (k + 1)) c = (inSets (ls.take k) c || ls[k].contains c) := by
  unfold inSets
  rw [List.take_succ_eq_append_getElem h, List.any_append]; simp only [List.any_cons, List.any_nil, Bool.or_false]
theorem inSets_hit (ls : List (List UInt8)) (k : Nat) (h : k < ls.length) (c : UInt8) (hc : ls[k].contains c = true) : inSets ls c = true := by
  unfold inSets
  exact List.any_eq_true.2 ⟨ls[k], List.getElem_mem h, hc⟩

set_option maxHeartbeats 800000 in
set_option maxRecDepth 100000 in
theorem in_s (c : UInt8) (v : Value) (ls : List (List UInt8)) (w : World) (hv : SIn w v ls) (hn : ls.length ≤ 100000) :
    Calls Tryz.prog 78 #[.int .u8 c.toNat, v] w fun e w' => e = .returned (.bool (inSets ls c)) ∧ w = w' := by
  obtain ⟨ao, cap, rfl, hc⟩ := hv
  obtain ⟨n, hnn⟩ : ∃ n, n = ls.length := ⟨_, rfl⟩
  rw [← hnn] at hn ⊢
  have HC := Lib.hid hc
  have HN := Lib.hid hnn
  clear hc hnn
  go_enter Tryz.func78, Tryz.ntmps78
  go_wp2_with fail
  go_loop [9] (fun i => ∃ k : Nat, k ≤ n ∧ i = .int .i64 k ∧ Hid (inSets (ls.take k) c = false)) (fun i => n - (intOf i).toNat)
  case atStart => exact ⟨0, by omega, rfl, Lib.hid rfl⟩
  case round =>
    obtain ⟨k, hk, rfl, HA⟩ := hrel
    by_cases hlt : k < n
    · have hkl : k < ls.length := by have := HN.out; omega
      obtain ⟨b, o, hao, _, hcell⟩ := HC.out.resolve_left (fun e => by rw [e] at hkl; cases hkl)
      subst hao
      have c1 := hcell k hkl
      have hI := fun w => Tryz.strings_IndexByte (str ls[k]) c.toNat w
      rw [str_list, byte_back] at hI
      have hcon := Lib.contains_iff_indexByte ls[k] c
      have HS := Lib.hid (inSets_snoc ls k hkl c)
      have HH := Lib.hid (inSets_hit ls k hkl c)
      generalize str ls[k] = x at *
      generalize Lib.indexByte ls[k] c = X at *
      generalize ls[k].contains c = tk at *
      clear hcell hkl
      cases tk with
      | false =>
        have hX : ¬ ((0 : Int) ≤ X) := of_decide_eq_false hcon.symm
        clear hcon
        go_wp2_with fail
        refine (hI _).mono ?_
        rintro e w' ⟨rfl, rfl⟩
        go_wp2_with fail
        go_round
        case rel => exact ⟨k + 1, by omega, by go_num, Lib.hid (by rw [HS.out, HA.out]; rfl)⟩
        case measure => simp [intOf]; omega
      | true =>
        have hX : (0 : Int) ≤ X := of_decide_eq_true hcon.symm
        have HR := Lib.hid (HH.out rfl)
        clear hcon HS HH
        go_wp2_with fail
        refine (hI _).mono ?_
        rintro e w' ⟨rfl, rfl⟩
        go_wp2_with fail
        go_ret
        exact ⟨ret_bool HR.out.symm, rfl⟩
    · have HE : Hid (ls.take k = ls) := List.take_of_length_le (by have := HN.out; omega)
      go_wp2_with fail
      go_ret
      exact ⟨ret_bool (by rw [← HA.out, HE.out]), rfl⟩

set_option maxHeartbeats 800000 in
set_option maxRecDepth 100000 in
theorem only_s (p : UInt8 → Bool) (s : ByteArray) (v : Value) (ls : List (List UInt8)) (w : World) (hv : SIn w v ls) (hn : ls.length ≤ 100000) (hp : ∀ c, inSets ls c = p c) (hs : s.size ≤ 1000000) :
    Calls Tryz.prog 60 #[.string s, v] w fun e w' => e = .returned (.bool (Oct.allOf p s.data.toList)) ∧ w = w' := by
  have cI := fun c => in_s c v ls w hv hn
  simp only [hp] at cI
  clear hv hp
  go_enter Tryz.func60, Tryz.ntmps60
  go_wp2_with fail
  go_loop [8] (fun i => ∃ k : Nat, k ≤ s.size ∧ i = .int .i64 k ∧ Hid (Oct.allOf p (s.data.toList.take k) = true)) (fun i => s.size - (intOf i).toNat)
  case atStart => exact ⟨0, by omega, rfl, Lib.hid rfl⟩
  case round =>
    obtain ⟨k, hk, rfl, HA⟩ := hrel
    by_cases hlt : k < s.size
    · have HN := Lib.hid (Oct.all_snoc p s k hlt)
      have HM := Lib.hid (Oct.all_miss p s k hlt)
      have cI := cI s[k]
      cases hp : p s[k] with
      | true =>
        rw [hp] at HN cI
        clear hp
        go_wp2_with fail
        refine cI.mono ?_
        rintro e w' ⟨rfl, rfl⟩
        go_wp2_with fail
        go_round
        case rel => exact ⟨k + 1, by omega, by go_num, Lib.hid (by rw [HN.out, HA.out]; rfl)⟩
        case measure => simp [intOf]; omega
      | false =>
        have HR := Lib.hid (HM.out hp)
        rw [hp] at cI
        clear hp
        go_wp2_with fail
        refine cI.mono ?_
        rintro e w' ⟨rfl, rfl⟩
        go_wp2_with fail
        go_ret
        exact ⟨ret_bool HR.out.symm, rfl⟩
    · have HE := Lib.hid (Oct.take_all s k (by omega))
      go_wp2_with fail
      go_ret
      exact ⟨ret_bool (by rw [← HA.out, HE.out]), rfl⟩

def longL (ls : List (List UInt8)) : Bool := ls.any fun l => decide (8000 < l.length)
theorem longL_snoc (ls : List (List UInt8)) (k : Nat) (h : k < ls.length) : longL (ls.take (k + 1)) = (longL (ls.take k) || decide (8000 < ls[k].length)) := by
  unfold longL
  rw [List.take_succ_eq_append_getElem h, List.any_append]; simp only [List.any_cons, List.any_nil, Bool.or_false]
theorem longL_hit (ls : List (List UInt8)) (k : Nat) (h : k < ls.length) (hc : 8000 < ls[k].length) : longL ls = true := by
  unfold longL
  exact List.any_eq_true.2 ⟨ls[k], List.getElem_mem h, decide_eq_true hc⟩
set_option maxHeartbeats 800000 in
set_option maxRecDepth 100000 in
theorem long_s (v : Value) (ls : List (List UInt8)) (w : World) (hv : SIn w v ls) (hn : ls.length ≤ 100000) :
    Calls Tryz.prog 19 #[v] w fun e w' => e = .returned (.bool (longL ls)) ∧ w = w' := by
  obtain ⟨ao, cap, rfl, hc⟩ := hv
  obtain ⟨n, hnn⟩ : ∃ n, n = ls.length := ⟨_, rfl⟩
  rw [← hnn] at hn ⊢
  have HC := Lib.hid hc
  have HN := Lib.hid hnn
  clear hc hnn
  go_enter Tryz.func19, Tryz.ntmps19
  go_wp2_with fail
  go_loop [7] (fun i => ∃ k : Nat, k ≤ n ∧ i = .int .i64 k ∧ Hid (longL (ls.take k) = false)) (fun i => n - (intOf i).toNat)
  case atStart => exact ⟨0, by omega, rfl, Lib.hid rfl⟩
  case round =>
    obtain ⟨k, hk, rfl, HA⟩ := hrel
    by_cases hlt : k < n
    · have hkl : k < ls.length := by have := HN.out; omega
      obtain ⟨b, o, hao, _, hcell⟩ := HC.out.resolve_left (fun e => by rw [e] at hkl; cases hkl)
      subst hao
      have c1 := hcell k hkl
      have hsz := str_size ls[k]
      have HS := Lib.hid (longL_snoc ls k hkl)
      have HH := Lib.hid (longL_hit ls k hkl)
      generalize str ls[k] = x at *
      generalize ls[k].length = X at *
      clear hcell hkl
      by_cases h8 : 8000 < X
      · have hX : (8000 : Int) < x.size := by omega
        clear hsz
        have HR := Lib.hid (HH.out h8)
        clear h8
        go_wp2_with fail
        go_ret
        exact ⟨ret_bool HR.out.symm, rfl⟩
      · have hX : ¬ ((8000 : Int) < x.size) := by omega
        clear hsz
        have HR : Hid (longL (ls.take (k + 1)) = false) := by rw [HS.out, HA.out, decide_eq_false h8]; exact Lib.hid rfl
        clear h8
        go_wp2_with fail
        go_round
        case rel => exact ⟨k + 1, by omega, by go_num, HR⟩
        case measure => simp [intOf]; omega
    · have HE : Hid (ls.take k = ls) := List.take_of_length_le (by have := HN.out; omega)
      go_wp2_with fail
      go_ret
      exact ⟨ret_bool (by rw [← HA.out, HE.out]), rfl⟩
end Go.Proofs.YtlikjfemkadciaaGreatDoor
