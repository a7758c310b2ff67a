/- Package device: what a crash leaves, what a flush keeps, what is read and written. -/
import Derived.Test.YtjdmmnpfjbnhoaaDvP7
namespace Go.Proofs.Ytjdmmnpfjbnhoaa
open Go.RowKit

set_option maxHeartbeats 1600000 in
set_option maxRecDepth 100000 in
/-- How many octets of the k-th write a crash leaves. -/
theorem left_w (F : Nat → Prop) (w W : World) (gc : Nat) (v : Value) (keep : List Bool) (torn p : Int) (k : Nat) (hb : W.heap[gc]? = some (.cells #[v, .int .i64 torn, .int .i64 p] 42 (0, 0))) (hv : KIn F w v keep) (ht : Touch F w W) :
    Calls Try.prog 39 #[.int .i64 (k : Int), .pointer (some ⟨gc, 0, none⟩)] W fun e w' => e = .returned (.int .i64 (Dv.octets keep torn p k : Nat)) ∧ W = w' := by
  have c0 : W.cell? ⟨gc, 0, none⟩ = some v := (blk_cell hb 0 _ rfl).1
  have c1 : W.cell? ⟨gc, 1, none⟩ = some (.int .i64 torn) := (blk_cell hb 1 _ rfl).1
  have c2 : W.cell? ⟨gc, 2, none⟩ = some (.int .i64 p) := (blk_cell hb 2 _ rfl).1
  obtain ⟨ao, cap, rfl, h1, h2, h3⟩ := hv
  clear hb
  by_cases hkt : (k : Int) = torn
  · obtain ⟨x, e1⟩ : ∃ x, (if p < 0 then 0 else p) = x := ⟨_, rfl⟩
    have e1' : max p 0 = x := by rw [← e1]; split <;> omega
    obtain ⟨y, e2⟩ : ∃ y, (if 64 < x then 64 else x) = y := ⟨_, rfl⟩
    have e2' : min x 64 = y := by rw [← e2]; split <;> omega
    have HR : Hid (y = ((Dv.octets keep torn p k : Nat) : Int)) := Lib.hid (by unfold Dv.octets Dv.part; rw [if_pos hkt]; omega)
    clear h3
    go_enter Try.func39, Try.ntmps39
    go_wp2_with fail
    go_ret
    exact ⟨by rw [← HR.out]; rfl, rfl⟩
  · have hkn : ((k : Int) == torn) = false := beq_eq_false_iff_ne.2 hkt
    by_cases hlt : k < keep.length
    · have hki : (k : Int) < keep.length := by omega
      obtain ⟨b, o, rfl, hbl, hF, hc⟩ := h3.resolve_left (fun e => by rw [e] at hlt; cases hlt)
      have q := hc k hlt
      have q2 : W.cell? ⟨b, o + k, none⟩ = some (.bool keep[k]) := by rw [World.cell?_of_block (a := ⟨b, o + k, none⟩) (ht.block b hbl hF)]; exact q
      have HR : Hid (Dv.octets keep torn p k = if keep[k] then 64 else 0) := Lib.hid (by unfold Dv.octets; rw [if_neg hkt, List.getD_eq_getElem?_getD, List.getElem?_eq_getElem hlt]; rfl)
      generalize keep[k] = kb at q2 HR
      clear hc q ht h3 hlt
      generalize keep.length = N at *
      cases kb with
      | true =>
        go_enter Try.func39, Try.ntmps39
        go_wp2_with fail
        go_ret
        exact ⟨by rw [HR.out]; rfl, rfl⟩
      | false =>
        go_enter Try.func39, Try.ntmps39
        go_wp2_with fail
        go_ret
        exact ⟨by rw [HR.out]; rfl, rfl⟩
    · have hki : ¬ (k : Int) < keep.length := by omega
      have HR : Hid (Dv.octets keep torn p k = 0) := Lib.hid (by unfold Dv.octets; rw [if_neg hkt, List.getD_eq_getElem?_getD, List.getElem?_eq_none (by omega)]; rfl)
      clear h3 ht hlt
      generalize keep.length = N at *
      go_enter Try.func39, Try.ntmps39
      go_wp2_with fail
      go_ret
      exact ⟨by rw [HR.out]; rfl, rfl⟩
theorem all64_w (W : World) (k : Nat) : Calls Try.prog 46 #[.int .i64 (k : Int)] W fun e w' => e = .returned (.int .i64 ((64 : Nat) : Int)) ∧ W = w' := by
  go_enter Try.func46, Try.ntmps46
  go_wp2_with fail
  go_ret
  exact ⟨rfl, rfl⟩

set_option maxHeartbeats 1600000 in
set_option maxRecDepth 100000 in
theorem crash_w (g : Nat) (d : Dv.S) (F : Nat → Prop) (v : Value) (keep : List Bool) (torn p : Int) (w : World) (h : Dev13 w g d F) (hw : d.wait.length ≤ 100000) (hv : KIn F w v keep) :
    Calls Try.prog 11 #[.pointer (some ⟨g, 0, none⟩), mkCrash v torn p] w fun e w' => ∃ F' x, e = .returned x ∧ Dev13 w' g (Dv.crash d keep torn p) F' ∧ Touch F w w' ∧ More F F' w := by
  obtain ⟨⟨n, bs, bv, wv, fv, L, hM, hL, hf⟩, hlt⟩ := h
  obtain ⟨W1, hW1⟩ : ∃ W1, W1 = w.alloc (.cells #[v, .int .i64 torn, .int .i64 p] 42) := ⟨_, rfl⟩
  have hb1 : Below w.heap.size w W1 := by rw [hW1]; exact (Below.refl _ w).alloc (Nat.le_refl _) _
  have hc1 : W1.heap[w.heap.size]? = some (.cells #[v, .int .i64 torn, .int .i64 p] 42 (0, 0)) := by rw [hW1]; exact heap_alloc_new w _
  obtain ⟨gc, hgc⟩ : ∃ gc, gc = w.heap.size := ⟨_, rfl⟩
  rw [← hgc] at hc1
  have hM1 := (hM.later hb1).own
  have hnF : ∀ k, Own0 g bs bv wv k → k < w.heap.size := fun k hk => hlt k (hM.own_le k hk)
  have hcl := settleC_w W1 g (Own0 g bs bv wv) n bs bv wv fv _ _ d.safe (Dv.sees d) d.wait (Dv.octets keep torn p) gc hM1 (Dv.octets_le keep torn p) (by omega) (fun W' ht k _ => left_w F w W' gc v keep torn p k (by rw [ht.block gc (lt_of_block hc1) (fun e => by have := hnF gc e; omega)]; exact hc1) hv ((Touch.of hb1).trans (ht.mono (fun k _ hk => hM.own_le k hk))))
  rw [Dv.settled, Dv.settle_crash keep torn p d.wait 0 d.safe hM.gS (fun x hx => by rw [hM.lS]; exact hM.gW x hx)] at hcl
  have HCL := Lib.hid hcl
  have HM := Lib.hid hM
  have HLT := Lib.hid hlt
  have HB1 := Lib.hid hb1
  have HGC := Lib.hid hgc
  have hW1' : w.alloc (.cells #[v, .int .i64 torn, .int .i64 p] 42) = W1 := hW1.symm
  have HV := Lib.hid hv
  have hvs : ∃ ao N cap, v = .slice ao N cap := by obtain ⟨ao, cap, e, _⟩ := hv; exact ⟨_, _, _, e⟩
  obtain ⟨ao, N, cap, rfl⟩ := hvs
  clear hM hlt hf hL hb1 hc1 hgc hM1 hnF hcl hW1 hv hw
  unfold mkCrash
  have hmf : ∀ (fn : Fn) (first cap : Array Value) (w : World), (Instr.makeFunc fn first cap).run Try.prog w = .ok (.func fn first cap) w := fun _ _ _ _ => rfl
  go_enter Try.func11, Try.ntmps11
  go_upto_region 1 with fail
  rw [← HGC.out]
  clear hW1'
  go_wp2_with fail
  refine HCL.out.mono ?_
  rintro e w2 ⟨rfl, ht2, hM2⟩
  have HT2 := Lib.hid ht2
  have HM2 := Lib.hid hM2
  have cM := mend_w w2 g _ _ _ _ _ _ hM2.blk
  clear ht2 hM2
  go_wp2_with fail
  refine cM.mono ?_
  rintro e w3 ⟨rfl, ht3, hb3⟩
  have HT3 := Lib.hid ht3
  have HB3 := Lib.hid hb3
  clear ht3 hb3 cM
  go_wp2_with fail
  go_end0
  have hM3 := HM2.out.block HB3.out (fun k hk _ hn => HT3.out.block k hk hn)
  have hT : Touch F w w3 := (Touch.of HB1.out).trans ((HT2.out.mono (fun k _ hk => HM.out.own_le k hk)).trans (HT3.out.mono (fun k _ hk => by rw [hk]; exact HM.out.hg)))
  refine ⟨F, _, rfl, ⟨⟨n, bs, bv, .slice none 0 0, .slice none 0 0, -1, ?_, ⟨.inr ⟨by omega, (by show (-1 : Int) < 0; omega)⟩, by omega, by omega⟩, [], ⟨none, 0, rfl, Nat.le_refl _, by decide, .inl rfl⟩, List.Pairwise.nil, fun x => rfl, by decide, fun x hn => absurd rfl hn⟩, fun k hk => Nat.lt_of_lt_of_le (HLT.out k hk) hT.size⟩, hT, fun k hk => .inl hk⟩
  have e9 : Dv.sees (Dv.crash d keep torn p) = Dv.left_ keep torn p 0 d.wait d.safe := Dv.sees_none rfl
  show Med w3 g F n bs bv _ _ (.int .i64 ((0 : Nat) : Int)) _ (Dv.left_ keep torn p 0 d.wait d.safe) (Dv.sees (Dv.crash d keep torn p)) []
  rw [e9]
  exact hM3.mono (fun k hk => HM.out.own_le k hk)
end Go.Proofs.Ytjdmmnpfjbnhoaa
