/- The program's package page: Join, blank. -/
import Derived.Test.YtlipgphmhkjnpaaDoorPgV
import Derived.Test.YtlipgphmhkjnpaaDoorPgP
namespace Go.Proofs.YtlipgphmhkjnpaaDoor
open Go.RowKit

set_option maxHeartbeats 1600000 in
set_option maxRecDepth 100000 in
theorem pJoin_w (v : Value) (ls : List (List UInt8)) (w : World) (h : BsIn w v ls) (ht : ls.flatten.length ≤ 100000000) :
    Calls Tryd.prog 28 #[v] w fun e w' => ∃ u, e = .returned u ∧ Buf w w' u ls.flatten := by
  have cC := Concat_w v ls w h ht
  clear h ht
  generalize ls.flatten = l at *
  go_enter Tryd.func28, Tryd.ntmps28
  go_wp2_with fail
  refine cC.mono ?_
  rintro e w1 ⟨u, rfl, hB⟩
  clear cC
  go_wp2_with fail
  go_ret
  exact ⟨_, rfl, hB⟩

set_option maxHeartbeats 1600000 in
set_option maxRecDepth 100000 in
theorem nought_w (c : UInt8) (w : World) :
    Calls Tryd.prog 53 #[.int .u8 (c.toNat : Int)] w fun e w' => e = .returned (.bool (c != 0)) ∧ w = w' := by
  have hc : (c != 0) = ((c.toNat : Int) != 0) := by
    by_cases h : c = 0
    · subst h; rfl
    · have h2 : c.toNat ≠ 0 := fun e => h (UInt8.toNat_inj.1 e)
      rw [bne_iff_ne.2 h, bne_iff_ne.2 (by omega : (c.toNat : Int) ≠ 0)]
  rw [hc]
  have hlt := c.toNat_lt
  generalize c.toNat = n at *
  clear hc
  go_enter Tryd.func53, Tryd.ntmps53
  go_wp2_with fail
  go_ret
  exact ⟨rfl, rfl⟩

/-- Where the first that isn't nought stands. -/
def nz : List UInt8 → Nat → Option Nat
  | [], _ => none
  | c :: r, k => if c = 0 then nz r (k + 1) else some k
theorem nz_none : ∀ (l : List UInt8) (k : Nat), (nz l k).isNone = Pg.blank l
  | [], _ => rfl
  | c :: r, k => by
    unfold nz Pg.blank
    rw [List.all_cons]
    by_cases h : c = 0
    · subst h; rw [if_pos rfl]; exact nz_none r (k + 1)
    · rw [if_neg h, show (c == 0) = false from beq_eq_false_iff_ne.2 h]; rfl
set_option maxHeartbeats 3200000 in
set_option maxRecDepth 100000 in
theorem IndexFn_w (v : Value) (l : List UInt8) (w : World) (h : BIn w v l) (hl : l.length ≤ 1000000) :
    Calls Tryd.prog 61 #[v, .func (.func 53) #[] #[]] w fun e w' => ∃ n : Int, e = .returned (.int .i64 n) ∧ decide (0 ≤ n) = !(Pg.blank l) ∧ w = w' := by
  have HN := Lib.hid (fun (c : UInt8) (w : World) => nought_w c w)
  obtain ⟨ao, cap, rfl, hlc, hc9, hg⟩ := h
  obtain ⟨L, hL⟩ : ∃ L, L = l.length := ⟨_, rfl⟩
  have HL := Lib.hid hL
  have HG := Lib.hid hg
  rw [← hL] at hlc hl ⊢
  clear hL hg
  go_enter Tryd.func61, Tryd.ntmps61
  go_wp2_with fail
  go_loop [8] (fun i => ∃ k : Nat, k ≤ L ∧ i = .int .i64 k ∧ Hid (Pg.blank (l.take k) = true)) (fun i => L - (intOf i).toNat)
  case atStart => exact ⟨0, Nat.zero_le _, rfl, Lib.hid rfl⟩
  case round =>
    obtain ⟨k, hk, rfl, HK⟩ := hrel
    by_cases hlt : k < L
    · have hki : (k : Int) < L := by omega
      have k0 : k < l.length := by rw [← HL.out]; exact hlt
      obtain ⟨b, o, hao, hbl, hcell⟩ := HG.out.resolve_left (fun x => by rw [x] at k0; cases k0)
      subst hao
      have hcl := hcell k k0
      have HS := Lib.hid (tk_snoc l k k0)
      have HKC : Hid (Pg.blank (l.take (k + 1)) = (l[k] == 0)) := Lib.hid (by
        rw [HS.out]; unfold Pg.blank; rw [List.all_append]
        have := HK.out; unfold Pg.blank at this; rw [this]; simp)
      have HLL : Hid (Pg.blank l = true → (l[k] == 0) = true) := Lib.hid (fun h9 => by
        unfold Pg.blank at h9; rw [List.all_eq_true] at h9; exact h9 _ (List.getElem_mem k0))
      generalize l[k] = c at *
      clear hcell
      have cN := HN.out c w
      go_wp2_with fail
      refine cN.mono ?_
      rintro e w1 ⟨rfl, rfl⟩
      clear cN
      by_cases hc : c = 0
      · have hcb : (c != 0) = false := by rw [hc]; rfl
        rw [hcb]
        go_wp2_with fail
        go_round
        case rel => exact ⟨k + 1, by omega, by go_num, Lib.hid (by rw [HKC.out, hc]; rfl)⟩
        case measure => simp [intOf]; omega
      · have hcb : (c != 0) = true := bne_iff_ne.2 hc
        rw [hcb]
        go_wp2_with fail
        go_ret
        refine ⟨_, rfl, ?_, rfl⟩
        have : Pg.blank l = false := by
          cases hb : Pg.blank l with
          | false => rfl
          | true => exact absurd (by simpa using HLL.out hb) hc
        rw [this]
        exact decide_eq_true (by omega)
    · have hki : ¬ (k : Int) < L := by omega
      have HB : Hid (Pg.blank l = true) := Lib.hid (by have := HK.out; rw [show k = l.length by rw [← HL.out]; omega, List.take_length] at this; exact this)
      clear hlt hk
      go_wp2_with fail
      go_ret
      exact ⟨_, rfl, by rw [HB.out]; rfl, rfl⟩

set_option maxHeartbeats 1600000 in
set_option maxRecDepth 100000 in
theorem pblank_w (v : Value) (l : List UInt8) (w : World) (h : BIn w v l) (hl : l.length ≤ 1000000) :
    Calls Tryd.prog 33 #[v] w fun e w' => e = .returned (.bool (Pg.blank l)) ∧ w = w' := by
  have cI := IndexFn_w v l w h hl
  have cF : Calls Tryd.prog 52 #[v, .func (.func 53) #[] #[]] w fun e w' => e = .returned (.bool (!(Pg.blank l))) ∧ w = w' := by
    clear h hl
    generalize Pg.blank l = B at *
    go_enter Tryd.func52, Tryd.ntmps52
    go_wp2_with fail
    refine cI.mono ?_
    rintro e w1 ⟨n, rfl, hn, rfl⟩
    have HN := Lib.hid hn
    clear cI hn
    go_wp2_with fail
    go_ret
    exact ⟨by rw [← HN.out]; rfl, rfl⟩
  clear h hl cI
  generalize Pg.blank l = B at *
  go_enter Tryd.func33, Tryd.ntmps33
  go_wp2_with fail
  refine cF.mono ?_
  rintro e w1 ⟨rfl, rfl⟩
  clear cF
  cases B
  all_goals (go_wp2_with fail; go_ret; exact ⟨rfl, rfl⟩)
end Go.Proofs.YtlipgphmhkjnpaaDoor
