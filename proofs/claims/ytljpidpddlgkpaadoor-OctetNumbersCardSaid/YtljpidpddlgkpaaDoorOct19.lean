/- Package octet: a number's digits: the calls, and the document's own answer. -/
import Derived.Test.YtljpidpddlgkpaaDoorOct18
import Derived.Test.YtljpidpddlgkpaaDoorOct14
import Derived.Test.YtljpidpddlgkpaaDoorShelf
namespace Go.Proofs.YtljpidpddlgkpaaDoor
open Go.RowKit

theorem below_grow (w : World) (k : Nat) (os : Array Obj) : Below w.heap.size w (Sort.grow (w.drewN k) os) := by
  refine ⟨rfl, rfl, rfl, ?_, fun i hi => ?_⟩
  · show w.heap.size ≤ (w.heap ++ os).size; simp
  · show (w.heap ++ os)[i]? = _; rw [Array.getElem?_append_left hi]
theorem tab_alloc {g : Nat} {tab : List Nat} {w : World} (h : TabAt g tab w) (o : Obj) : TabAt g tab (w.alloc o) := fun j hj => by
  have h1 := h j hj
  have := World.block_lt_of_cell? w _ h1
  rw [World.cell?_alloc_past _ _ _ this]; exact h1

set_option maxHeartbeats 400000 in
theorem formatInt16 (u : Nat) (w : World) (hu : u < 9223372036854775808) (hT : TabAt 5 Lib.deBruijn64tab w) :
    Calls Tryd.prog 42 #[.int .i64 u, .int .i64 16] w fun e w' => e = .returned (.string (str (Oct.dgs 16 u))) ∧ Below w.heap.size w w' := by
  have hB := bits16 u w hu (fun o => tab_alloc hT o)
  have HB := Lib.hid hB
  clear hB hT
  have hn : ¬ (u : Int) < 0 := by omega
  have e55 : Calls Tryd.prog 55 #[.int .i64 u, .int .i64 16] w fun e w' => e = .returned (.string (str (Oct.dgs 16 u))) ∧ Below w.heap.size w w' := by
    go_enter Tryd.func55, Tryd.ntmps55
    go_wp2_with fail
    refine HB.out.mono ?_
    rintro e w1 ⟨rfl, hb⟩
    go_wp2_with fail
    go_ret
    exact ⟨rfl, hb⟩
  have HE := Lib.hid e55
  clear e55 HB
  go_enter Tryd.func42, Tryd.ntmps42
  go_wp2_with fail
  refine HE.out.mono ?_
  rintro e w1 ⟨rfl, hb⟩
  go_wp2_with fail
  go_ret
  exact ⟨rfl, hb⟩

theorem formatInt10 (u : Nat) (w : World) (hu : u < 9223372036854775808) (hT : Lib.TabIs Tryd.prog w "internal/strconv.uint64pow10" .u64 Lib.pow10Tab) :
    Calls Tryd.prog 42 #[.int .i64 u, .int .i64 10] w fun e w' => e = .returned (.string (str (Oct.dgs 10 u))) ∧ Below w.heap.size w w' := by
  refine (Tryd.strconv_FormatInt_10 (u : Int) (by omega) (by omega) w hT).mono ?_
  rintro e w' ⟨rfl, k, os, rfl⟩
  refine ⟨?_, below_grow w k os⟩
  have : Lib.itoa (u : Int) = Oct.dgs 10 u := by
    unfold Lib.itoa; rw [if_neg (by omega), Int.toNat_natCast, Oct.dgs_dec]
  rw [this]; rfl

/-- The library's tables are there. -/
def Tabs (w : World) : Prop := TabAt 5 Lib.deBruijn64tab w ∧ Lib.TabIs Tryd.prog w "internal/strconv.uint64pow10" .u64 Lib.pow10Tab

set_option maxHeartbeats 800000 in
theorem Print_s (n b : Int) (w : World) (hn : n ≤ 9223372036854775807) (hT : Tabs w) :
    Calls Tryd.prog 28 #[.int .i64 n, .int .i64 b] w fun e w' => e = .returned (.string (str (Oct.print n b))) ∧ Below w.heap.size w w' := by
  obtain ⟨m, hm⟩ : ∃ m : Nat, m = n.toNat := ⟨_, rfl⟩
  have hmax : max n 0 = (m : Int) := by omega
  have hm2 : m < 9223372036854775808 := by omega
  have HM := Lib.hid hm
  clear hm
  by_cases hb : b = 16
  · subst hb
    have HP : Hid (Oct.print n 16 = Oct.dgs 16 m) := by unfold Oct.print Oct.base; rw [if_pos rfl, HM.out]; rfl
    go_enter Tryd.func28, Tryd.ntmps28
    go_wp2_with fail
    refine (formatInt16 m w hm2 hT.1).mono ?_
    rintro e w1 ⟨rfl, hb⟩
    go_wp2_with fail
    go_ret
    exact ⟨ret_str (by rw [HP.out]), hb⟩
  · have HP : Hid (Oct.print n b = Oct.dgs 10 m) := by unfold Oct.print Oct.base; rw [if_neg hb, HM.out]; rfl
    have b1 : (b != 16) = true := by rw [bne, beq_eq_false_iff_ne.2 hb]; rfl
    have b2 : (b == 16) = false := beq_eq_false_iff_ne.2 hb
    clear hb
    go_enter Tryd.func28, Tryd.ntmps28
    go_wp2_with fail
    refine (formatInt10 m w hm2 hT.2).mono ?_
    rintro e w1 ⟨rfl, hb⟩
    go_wp2_with fail
    go_ret
    exact ⟨ret_str (by rw [HP.out]), hb⟩

theorem str_cons (c : UInt8) (x : ByteArray) : str [c] ++ x = str (c :: x.data.toList) := by
  have : (str [c] ++ x).data.toList = c :: x.data.toList := by rw [app_list, str_list]; rfl
  rw [← this, str_of]

set_option maxHeartbeats 1600000 in
set_option maxRecDepth 100000 in
theorem rPrint10 (n c : Int) (w : World) (hn : n ≤ 9223372036854775807) (hc : ¬ c = 16) :
    Calls Tryd.prog 29 #[.int .i64 n, .int .i64 c] w fun e w' => e = .returned (.string (str (Oct.print n c))) ∧ Below w.heap.size w w' := by
  obtain ⟨N, hN⟩ : ∃ N : Nat, N = n.toNat := ⟨_, rfl⟩
  have hN2 : N < 9223372036854775808 := by omega
  have HP : Hid (Oct.print n c = Oct.dgs 10 N) := by unfold Oct.print Oct.base; rw [if_neg hc, hN]; rfl
  have HL : Hid ((Oct.dgs 10 N).length ≤ 100) := Oct.dgs_len10 N (by omega)
  have b1 : (c != 16) = true := by rw [bne, beq_eq_false_iff_ne.2 hc]; rfl
  have b2 : (c == 16) = false := beq_eq_false_iff_ne.2 hc
  clear hc
  by_cases hneg : n < 0
  · have hN0 : N = 0 := by omega
    clear hN
    go_enter Tryd.func29, Tryd.ntmps29
    go_wp2_with fail
    refine wp_loop_rounds 1 ?_
    rw [rounds_succ]
    have hcv := (Buf.one (Below.refl w.heap.size w) (Oct.ch 0) 48 rfl).string
    have HF : Hid (str [Oct.ch 0] ++ (⟨#[]⟩ : ByteArray) = str (Oct.dgs 10 N)) := by rw [str_cons, hN0, Oct.dgs_last (by decide)]; rfl
    clear hN0
    go_wp2_with fail
    go_ret
    exact ⟨ret_str (by rw [HF.out, HP.out]), (Below.refl _ _).alloc (Nat.le_refl _) _⟩
  have hnN : n = (N : Int) := by omega
  subst hnN
  clear hN
  go_enter Tryd.func29, Tryd.ntmps29
  go_wp2_with fail
  go_loopw [0, 5] (fun y s wr => ∃ (v : Nat) (x : ByteArray), y = .int .i64 v ∧ s = .string x ∧ v < 9223372036854775808 ∧ Hid (Oct.dgs 10 N = Oct.dgs 10 v ++ x.data.toList) ∧ Below w.heap.size w wr) (fun y _ _ => (intOf y).toNat)
  case atStart => exact ⟨N, ⟨#[]⟩, rfl, rfl, hN2, by rw [show (⟨#[]⟩ : ByteArray).data.toList = [] from rfl, List.append_nil]; rfl, Below.refl _ _⟩
  case round =>
    obtain ⟨v, x, rfl, rfl, hv, HD, hB⟩ := hrel
    have hxs : x.size ≤ 100 := by
      have h1 : (Oct.dgs 10 N).length ≤ 100 := HL.out
      rw [HD.out, List.length_append, Oct.length_size] at h1; omega
    have hss : (str [Oct.ch (v % 10)]).size = 1 := str_size _
    have hcv := (Buf.one (Below.refl wr.heap.size wr) (Oct.ch (v % 10)) (48 + (v : Int) % 10) (Oct.ch_is48 10 v (Nat.mod_lt _ (by decide)))).string
    by_cases hz : v < 10
    · have b0 : ((v : Int) / 10 == 0) = true := beq_iff_eq.2 (by omega)
      have HF : Hid (str [Oct.ch (v % 10)] ++ x = str (Oct.dgs 10 N)) := by
        rw [str_cons, HD.out, Oct.dgs_last hz, Nat.mod_eq_of_lt hz]; rfl
      go_wp2_with fail
      go_ret
      exact ⟨ret_str (by rw [HF.out, HP.out]), hB.alloc hB.size _⟩
    · have b0 : ((v : Int) / 10 == 0) = false := beq_eq_false_iff_ne.2 (by omega)
      have HF : Hid (Oct.dgs 10 N = Oct.dgs 10 (v / 10) ++ (str [Oct.ch (v % 10)] ++ x).data.toList) := by
        rw [HD.out, Oct.dgs_more (by decide) (by omega), str_cons, str_list]; simp [Hid]
      go_wp2_with fail
      go_roundw
      case rel => exact ⟨v / 10, _, by go_num, rfl, by omega, HF, hB.alloc hB.size _⟩
      case measure => simp [intOf]; omega

set_option maxHeartbeats 1600000 in
set_option maxRecDepth 100000 in
theorem rPrint16 (n c : Int) (w : World) (hn : n ≤ 9223372036854775807) (hc : c = 16) :
    Calls Tryd.prog 29 #[.int .i64 n, .int .i64 c] w fun e w' => e = .returned (.string (str (Oct.print n c))) ∧ Below w.heap.size w w' := by
  obtain ⟨N, hN⟩ : ∃ N : Nat, N = n.toNat := ⟨_, rfl⟩
  have hN2 : N < 9223372036854775808 := by omega
  have HP : Hid (Oct.print n c = Oct.dgs 16 N) := by unfold Oct.print Oct.base; rw [if_pos hc, hN]; rfl
  have HL : Hid ((Oct.dgs 16 N).length ≤ 100) := Oct.dgs_len16 N (by omega)
  subst hc
  by_cases hneg : n < 0
  · have hN0 : N = 0 := by omega
    clear hN
    go_enter Tryd.func29, Tryd.ntmps29
    go_wp2_with fail
    refine wp_loop_rounds 1 ?_
    rw [rounds_succ]
    have hcv := (Buf.one (Below.refl w.heap.size w) (Oct.ch 0) 48 rfl).string
    have HF : Hid (str [Oct.ch 0] ++ (⟨#[]⟩ : ByteArray) = str (Oct.dgs 16 N)) := by rw [str_cons, hN0, Oct.dgs_last (by decide)]; rfl
    clear hN0
    go_wp2_with fail
    go_ret
    exact ⟨ret_str (by rw [HF.out, HP.out]), (Below.refl _ _).alloc (Nat.le_refl _) _⟩
  have hnN : n = (N : Int) := by omega
  subst hnN
  clear hN
  go_enter Tryd.func29, Tryd.ntmps29
  go_wp2_with fail
  go_loopw [0, 5] (fun y s wr => ∃ (v : Nat) (x : ByteArray), y = .int .i64 v ∧ s = .string x ∧ v < 9223372036854775808 ∧ Hid (Oct.dgs 16 N = Oct.dgs 16 v ++ x.data.toList) ∧ Below w.heap.size w wr) (fun y _ _ => (intOf y).toNat)
  case atStart => exact ⟨N, ⟨#[]⟩, rfl, rfl, hN2, by rw [show (⟨#[]⟩ : ByteArray).data.toList = [] from rfl, List.append_nil]; rfl, Below.refl _ _⟩
  case round =>
    obtain ⟨v, x, rfl, rfl, hv, HD, hB⟩ := hrel
    have hxs : x.size ≤ 100 := by
      have h1 : (Oct.dgs 16 N).length ≤ 100 := HL.out
      rw [HD.out, List.length_append, Oct.length_size] at h1; omega
    have hss : (str [Oct.ch (v % 16)]).size = 1 := str_size _
    by_cases h10 : v % 16 < 10
    · have h10' : (v : Int) % 16 < 10 := by omega
      have hcv := (Buf.one (Below.refl wr.heap.size wr) (Oct.ch (v % 16)) (48 + (v : Int) % 16) (Oct.ch_is48 16 v h10)).string
      by_cases hz : v < 16
      · have b0 : ((v : Int) / 16 == 0) = true := beq_iff_eq.2 (by omega)
        have HF : Hid (str [Oct.ch (v % 16)] ++ x = str (Oct.dgs 16 N)) := by
          rw [str_cons, HD.out, Oct.dgs_last hz, Nat.mod_eq_of_lt hz]; rfl
        go_wp2_with fail
        go_ret
        exact ⟨ret_str (by rw [HF.out, HP.out]), hB.alloc hB.size _⟩
      · have b0 : ((v : Int) / 16 == 0) = false := beq_eq_false_iff_ne.2 (by omega)
        have HF : Hid (Oct.dgs 16 N = Oct.dgs 16 (v / 16) ++ (str [Oct.ch (v % 16)] ++ x).data.toList) := by
          rw [HD.out, Oct.dgs_more (by decide) (by omega), str_cons, str_list]; simp [Hid]
        go_wp2_with fail
        go_roundw
        case rel => exact ⟨v / 16, _, by go_num, rfl, by omega, HF, hB.alloc hB.size _⟩
        case measure => simp [intOf]; omega
    · have h10' : (10 : Int) ≤ (v : Int) % 16 := by omega
      have hcv := (Buf.one (Below.refl wr.heap.size wr) (Oct.ch (v % 16)) (87 + (v : Int) % 16) (Oct.ch_is87 16 v (by omega))).string
      by_cases hz : v < 16
      · have b0 : ((v : Int) / 16 == 0) = true := beq_iff_eq.2 (by omega)
        have HF : Hid (str [Oct.ch (v % 16)] ++ x = str (Oct.dgs 16 N)) := by
          rw [str_cons, HD.out, Oct.dgs_last hz, Nat.mod_eq_of_lt hz]; rfl
        go_wp2_with fail
        go_ret
        exact ⟨ret_str (by rw [HF.out, HP.out]), hB.alloc hB.size _⟩
      · have b0 : ((v : Int) / 16 == 0) = false := beq_eq_false_iff_ne.2 (by omega)
        have HF : Hid (Oct.dgs 16 N = Oct.dgs 16 (v / 16) ++ (str [Oct.ch (v % 16)] ++ x).data.toList) := by
          rw [HD.out, Oct.dgs_more (by decide) (by omega), str_cons, str_list]; simp [Hid]
        go_wp2_with fail
        go_roundw
        case rel => exact ⟨v / 16, _, by go_num, rfl, by omega, HF, hB.alloc hB.size _⟩
        case measure => simp [intOf]; omega

end Go.Proofs.YtljpidpddlgkpaaDoor
