/- The laws' awake: the document's examples. -/
import Derived.Test.YtoanelobggledaaGreatDoorVR1
import Derived.IntWalk
import Derived.Laws.OwnMore
namespace Go.Proofs.YtoanelobggledaaGreatDoor
open Go.RowKit

def exU : Tg.U := ⟨[97], 80, [47, 120]⟩
def exV : Tg.U := ⟨[97], 80, [47, 121]⟩
def exPost : List UInt8 := [80, 79, 83, 84]
def exLoc : List Fld.F := [([76, 111, 99, 97, 116, 105, 111, 110], [47, 121])]
def exPriv : List Fld.F := [(Fr.nCC, [112, 114, 105, 118, 97, 116, 101])]
theorem ex_inv : Rl.invalid exU exPost 201 exLoc = [exU, exV] := by decide +kernel
theorem ex_priv (D : List UInt8 → Option Int) : Rl.storable D Rl.mGet [] 200 exPriv = false := by
  unfold Rl.storable
  rw [if_pos]
  have h : (Fr.says exPriv).pr = true := by decide +kernel
  simp [h]
theorem ex_aged (D : List UInt8 → Option Int) : Rl.storable D Rl.mGet [] 200 (Fr.aged [48]) = true := by
  have h1 : (Fr.says (Fr.aged [48])).ns = false := by decide +kernel
  have h2 : (Fr.says (Fr.aged [48])).pr = false := by decide +kernel
  have h3 : (Rl.ask []).ns = false := by decide +kernel
  have h4 : Rl.has [] Rl.kRange = false := by decide +kernel
  have h5 : Rl.has [] Rl.kAuth = false := by decide +kernel
  have h6 : (Vr.names (Fld.get (Fr.aged [48]) Rl.kVary)).2 = true := by decide +kernel
  have h7 : Fr.heur 200 = true := by decide +kernel
  unfold Rl.storable
  rw [if_neg (by simp [h1, h2, h3, h4]), if_neg (by simp [h5]), h6, h7]
  simp
theorem blk_new (w : World) (o : Obj) : (w.alloc o).heap[w.heap.size]? = some o := heap_alloc_new w o
theorem blk_hold {w w' : World} {g : Nat} {O : Obj} (h : w.heap[g]? = some O) (hb : Below w.heap.size w w') : w'.heap[g]? = some O := by
  rw [hb.block g (lt_of_block h)]; exact h
theorem grow1 (w : World) (o : Obj) : Below w.heap.size w (w.alloc o) := (Below.refl _ w).alloc (Nat.le_refl _) o
theorem two_cells {w : World} {g : Nat} {a b : Value} {t : TypeId} (hh : w.heap[g]? = some (.cells #[a, b] t (0, 0))) : w.cell? ⟨g, 0, none⟩ = some a ∧ w.cell? ⟨g, 1, none⟩ = some b := by
  simp [World.cell?, hh]
theorem tri_cells {w : World} {g : Nat} {a b c : Value} {t : TypeId} (hh : w.heap[g]? = some (.cells #[a, b, c] t (0, 0))) : w.cell? ⟨g, 0, none⟩ = some a ∧ w.cell? ⟨g, 1, none⟩ = some b ∧ w.cell? ⟨g, 2, none⟩ = some c := by
  simp [World.cell?, hh]
theorem fin_blk {w : World} {g : Nat} {a b : List UInt8} (h : w.heap[g]? = some (.cells #[.string (str a), .string (str b)] 53 (0, 0))) : FIn w (.slice (some ⟨g, 0, none⟩) 1 1) [(a, b)] :=
  ⟨some ⟨g, 0, none⟩, 1, rfl, .inr ⟨g, 0, rfl, lt_of_block h, fun j hj => by
    obtain rfl : j = 0 := by simp at hj; omega
    exact two_cells h⟩⟩
theorem pair_new (w : World) (A C : Obj) : Below w.heap.size w ((w.alloc A).alloc C) ∧ ((w.alloc A).alloc C).heap[w.heap.size]? = some A ∧ ((w.alloc A).alloc C).heap[w.heap.size + 1]? = some C :=
  ⟨((Below.refl _ w).alloc (Nat.le_refl _) _).alloc (by simp) _, blk_hold (heap_alloc_new w A) (grow1 _ _), heap_alloc2_new w A C⟩
theorem sev_cells {w : World} {g : Nat} {a b c d e f h : Value} {t : TypeId} (hh : w.heap[g]? = some (.cells #[a, b, c, d, e, f, h] t (0, 0))) :
    w.cell? ⟨g, 0, none⟩ = some a ∧ w.cell? ⟨g, 1, none⟩ = some b ∧ w.cell? ⟨g, 2, none⟩ = some c ∧ w.cell? ⟨g, 3, none⟩ = some d ∧ w.cell? ⟨g, 4, none⟩ = some e ∧ w.cell? ⟨g, 5, none⟩ = some f ∧ w.cell? ⟨g, 6, none⟩ = some h := by
  simp [World.cell?, hh]
set_option maxHeartbeats 6400000 in
set_option maxRecDepth 100000 in
theorem awake_w {D : List UInt8 → Option Int} {Env : World → Prop} (R : Prog11 D Env) (w : World) (he : Env w) :
    Calls Tryz.prog 10 #[] w fun e w' => e = .returned (.bool true) ∧ Below w.heap.size w w' := by
  have s0 : Sl (.slice none 0 0) := ⟨_, _, _, rfl⟩
  have HE : Hid (∀ W', Below w.heap.size w W' → Env W') := Lib.hid fun W' hb => R.later he hb
  go_enter Tryz.func10, Tryz.ntmps10
  go_upto_region 2 with fail
  have b1 := grow1 w (.cells #[.string ⟨#[71, 69, 84]⟩, .string ⟨#[47]⟩, .int .i64 0, .string ⟨#[]⟩, .int .i64 1, .slice none 0 0, .slice none 0 0] 27)
  have q1 := blk_new w (.cells #[.string ⟨#[71, 69, 84]⟩, .string ⟨#[47]⟩, .int .i64 0, .string ⟨#[]⟩, .int .i64 1, .slice none 0 0, .slice none 0 0] 27)
  generalize w.alloc (.cells #[.string ⟨#[71, 69, 84]⟩, .string ⟨#[47]⟩, .int .i64 0, .string ⟨#[]⟩, .int .i64 1, .slice none 0 0, .slice none 0 0] 27) = w1 at *
  obtain ⟨g1, hg1⟩ : ∃ g1, g1 = w.heap.size := ⟨_, rfl⟩
  rw [← hg1] at q1 ⊢
  clear hg1
  go_upto_region 3 with fail
  obtain ⟨b2, q2f, q2⟩ := pair_new w1 (.cells #[.string ⟨#[67, 97, 99, 104, 101, 45, 67, 111, 110, 116, 114, 111, 108]⟩, .string ⟨#[109, 97, 120, 45, 97, 103, 101, 61, 48]⟩] 53) (.cells #[.string ⟨#[]⟩, .string ⟨#[]⟩, .int .i64 200, .string ⟨#[]⟩, .int .i64 1, .slice (some ⟨w1.heap.size, 0, none⟩) 1 1, .slice none 0 0] 27)
  generalize (w1.alloc (.cells #[.string ⟨#[67, 97, 99, 104, 101, 45, 67, 111, 110, 116, 114, 111, 108]⟩, .string ⟨#[109, 97, 120, 45, 97, 103, 101, 61, 48]⟩] 53)).alloc (.cells #[.string ⟨#[]⟩, .string ⟨#[]⟩, .int .i64 200, .string ⟨#[]⟩, .int .i64 1, .slice (some ⟨w1.heap.size, 0, none⟩) 1 1, .slice none 0 0] 27) = w2 at *
  replace q1 := blk_hold q1 b2
  replace b2 := b1.trans (b2.mono b1.size)
  generalize w1.heap.size = g2 at *
  clear b1 w1
  go_upto_region 4 with fail
  obtain ⟨b3, q3f, q3⟩ := pair_new w2 (.cells #[.string ⟨#[67, 97, 99, 104, 101, 45, 67, 111, 110, 116, 114, 111, 108]⟩, .string ⟨#[112, 114, 105, 118, 97, 116, 101]⟩] 53) (.cells #[.string ⟨#[]⟩, .string ⟨#[]⟩, .int .i64 200, .string ⟨#[]⟩, .int .i64 1, .slice (some ⟨w2.heap.size, 0, none⟩) 1 1, .slice none 0 0] 27)
  generalize (w2.alloc (.cells #[.string ⟨#[67, 97, 99, 104, 101, 45, 67, 111, 110, 116, 114, 111, 108]⟩, .string ⟨#[112, 114, 105, 118, 97, 116, 101]⟩] 53)).alloc (.cells #[.string ⟨#[]⟩, .string ⟨#[]⟩, .int .i64 200, .string ⟨#[]⟩, .int .i64 1, .slice (some ⟨w2.heap.size, 0, none⟩) 1 1, .slice none 0 0] 27) = w3 at *
  replace q1 := blk_hold q1 b3
  replace q2 := blk_hold q2 b3
  replace q2f := blk_hold q2f b3
  replace b3 := b2.trans (b3.mono b2.size)
  generalize w2.heap.size = g3 at *
  clear b2 w2
  go_upto_region 5 with fail
  have b4 := grow1 w3 (.cells #[.string ⟨#[97]⟩, .int .i64 80, .string ⟨#[47, 120]⟩] 46)
  have q4 := blk_new w3 (.cells #[.string ⟨#[97]⟩, .int .i64 80, .string ⟨#[47, 120]⟩] 46)
  generalize w3.alloc (.cells #[.string ⟨#[97]⟩, .int .i64 80, .string ⟨#[47, 120]⟩] 46) = w4 at *
  replace q1 := blk_hold q1 b4
  replace q2 := blk_hold q2 b4
  replace q2f := blk_hold q2f b4
  replace q3 := blk_hold q3 b4
  replace q3f := blk_hold q3f b4
  replace b4 := b3.trans (b4.mono b3.size)
  generalize w3.heap.size = g5 at *
  clear b3 w3
  obtain ⟨u0, u1, u2⟩ := tri_cells q4
  have b5 := grow1 w4 (.cells #[.string ⟨#[76, 111, 99, 97, 116, 105, 111, 110]⟩, .string ⟨#[47, 121]⟩] 53)
  have q5 := blk_new w4 (.cells #[.string ⟨#[76, 111, 99, 97, 116, 105, 111, 110]⟩, .string ⟨#[47, 121]⟩] 53)
  have hb5 := b4.trans (b5.mono b4.size)
  have cI : Calls Tryz.prog 32 #[.agg #[.string ⟨#[97]⟩, .int .i64 80, .string ⟨#[47, 120]⟩], .string ⟨#[80, 79, 83, 84]⟩, .agg #[.string ⟨#[]⟩, .string ⟨#[]⟩, .int .i64 201, .string ⟨#[]⟩, .int .i64 0, .slice (some ⟨w4.heap.size, 0, none⟩) 1 1, .slice none 0 0]] (w4.alloc (.cells #[.string ⟨#[76, 111, 99, 97, 116, 105, 111, 110]⟩, .string ⟨#[47, 121]⟩] 53)) fun e w' => (∃ v, e = .returned v ∧ UIn w' v (Rl.invalid exU exPost 201 exLoc)) ∧ Below (w4.alloc (.cells #[.string ⟨#[76, 111, 99, 97, 116, 105, 111, 110]⟩, .string ⟨#[47, 121]⟩] 53)).heap.size (w4.alloc (.cells #[.string ⟨#[76, 111, 99, 97, 116, 105, 111, 110]⟩, .string ⟨#[47, 121]⟩] 53)) w' :=
    R.invalid exU exPost ⟨#[]⟩ ⟨#[]⟩ ⟨#[]⟩ 201 0 (.slice (some ⟨w4.heap.size, 0, none⟩) 1 1) (.slice none 0 0) exLoc _ (HE.out _ hb5) (fin_blk q5) s0 ⟨by decide, by decide⟩ (by decide) (by decide) (by decide) (by decide)
  rw [ex_inv] at cI
  go_wp2_with fail
  refine cI.mono ?_
  rintro e w6 ⟨⟨v, rfl, hv⟩, hx6⟩
  have b6 := hb5.trans (hx6.mono hb5.size)
  have h46 : Below w4.heap.size w4 w6 := b5.trans (hx6.mono b5.size)
  replace q1 := blk_hold q1 h46
  replace q2 := blk_hold q2 h46
  replace q2f := blk_hold q2f h46
  replace q3 := blk_hold q3 h46
  replace q3f := blk_hold q3f h46
  replace q4 := blk_hold q4 h46
  clear cI hx6 h46 hb5 b5 q5 b4 u0 u1 u2
  obtain ⟨ao, cp, rfl, hv⟩ := hv
  obtain ⟨ib, io, rfl, _, hc⟩ := hv.resolve_left (by simp)
  have i0 := hc 0 (by decide)
  have i1 := hc 1 (by decide)
  obtain ⟨v0, v1, v2⟩ : w6.cell? ⟨ib, io, none⟩ = some (.string ⟨#[97]⟩) ∧ w6.cell? ⟨ib, io + 1, none⟩ = some (.int .i64 80) ∧ w6.cell? ⟨ib, io + 2, none⟩ = some (.string ⟨#[47, 120]⟩) := by
    simp only [Nat.zero_mul, Nat.add_zero] at i0; exact i0
  have v5 : w6.cell? ⟨ib, io + 3 + 2, none⟩ = some (.string ⟨#[47, 121]⟩) := by
    simp only [Nat.one_mul] at i1; exact i1.2.2
  clear i0 i1 hc hv
  rw [show [exU, exV].length = 2 from rfl]
  have HB := Lib.hid b6
  have cA : ∀ p : LateOf w6, Calls Tryz.prog 12 #[.agg #[.string ⟨#[71, 69, 84]⟩, .string ⟨#[47]⟩, .int .i64 0, .string ⟨#[]⟩, .int .i64 1, .slice none 0 0, .slice none 0 0], .agg #[.string ⟨#[]⟩, .string ⟨#[]⟩, .int .i64 200, .string ⟨#[]⟩, .int .i64 1, .slice (some ⟨g2, 0, none⟩) 1 1, .slice none 0 0]] p.w fun e w' => e = .returned (.bool true) ∧ Below p.w.heap.size p.w w' := fun p => by
    have h := R.storable ⟨#[71, 69, 84]⟩ ⟨#[47]⟩ ⟨#[]⟩ ⟨#[]⟩ ⟨#[]⟩ ⟨#[]⟩ 0 1 200 1 (.slice none 0 0) (.slice none 0 0) (.slice (some ⟨g2, 0, none⟩) 1 1) (.slice none 0 0) [] (Fr.aged [48]) p.w (HE.out _ (HB.out.trans (p.h.mono HB.out.size))) (FIn.nil 0 none) s0 ⟨by decide, by decide⟩ (fin_blk (a := Fr.nCC) (b := Fr.kEq ++ [48]) (blk_hold q2f p.h)) s0 ⟨by decide, by decide⟩ (by decide)
    rw [show Rl.storable D (⟨#[71, 69, 84]⟩ : ByteArray).data.toList [] 200 (Fr.aged [48]) = true from ex_aged D] at h
    exact h
  have cB : ∀ p : LateOf w6, Calls Tryz.prog 12 #[.agg #[.string ⟨#[71, 69, 84]⟩, .string ⟨#[47]⟩, .int .i64 0, .string ⟨#[]⟩, .int .i64 1, .slice none 0 0, .slice none 0 0], .agg #[.string ⟨#[]⟩, .string ⟨#[]⟩, .int .i64 200, .string ⟨#[]⟩, .int .i64 1, .slice (some ⟨g3, 0, none⟩) 1 1, .slice none 0 0]] p.w fun e w' => e = .returned (.bool false) ∧ Below p.w.heap.size p.w w' := fun p => by
    have h := R.storable ⟨#[71, 69, 84]⟩ ⟨#[47]⟩ ⟨#[]⟩ ⟨#[]⟩ ⟨#[]⟩ ⟨#[]⟩ 0 1 200 1 (.slice none 0 0) (.slice none 0 0) (.slice (some ⟨g3, 0, none⟩) 1 1) (.slice none 0 0) [] exPriv p.w (HE.out _ (HB.out.trans (p.h.mono HB.out.size))) (FIn.nil 0 none) s0 ⟨by decide, by decide⟩ (fin_blk (a := Fr.nCC) (b := [112, 114, 105, 118, 97, 116, 101]) (blk_hold q3f p.h)) s0 ⟨by decide, by decide⟩ (by decide)
    rw [show Rl.storable D (⟨#[71, 69, 84]⟩ : ByteArray).data.toList [] 200 exPriv = false from ex_priv D] at h
    exact h
  obtain ⟨d0, d1, d2, d3, d4, d5, d6⟩ := sev_cells q1
  obtain ⟨e0, e1, e2, e3, e4, e5, e6⟩ := sev_cells q2
  obtain ⟨f0, f1, f2, f3, f4, f5, f6⟩ := sev_cells q3
  obtain ⟨u0, u1, u2⟩ := tri_cells q4
  clear q1 q2 q3 q4 q2f q3f R HE s0 he b6
  go_upto_region 6 with fail
  have ld0 := fun p : LateOf w6 => p.cell d0
  have ld1 := fun p : LateOf w6 => p.cell d1
  have ld2 := fun p : LateOf w6 => p.cell d2
  have ld3 := fun p : LateOf w6 => p.cell d3
  have ld4 := fun p : LateOf w6 => p.cell d4
  have ld5 := fun p : LateOf w6 => p.cell d5
  have ld6 := fun p : LateOf w6 => p.cell d6
  have le0 := fun p : LateOf w6 => p.cell e0
  have le1 := fun p : LateOf w6 => p.cell e1
  have le2 := fun p : LateOf w6 => p.cell e2
  have le3 := fun p : LateOf w6 => p.cell e3
  have le4 := fun p : LateOf w6 => p.cell e4
  have le5 := fun p : LateOf w6 => p.cell e5
  have le6 := fun p : LateOf w6 => p.cell e6
  have lf0 := fun p : LateOf w6 => p.cell f0
  have lf1 := fun p : LateOf w6 => p.cell f1
  have lf2 := fun p : LateOf w6 => p.cell f2
  have lf3 := fun p : LateOf w6 => p.cell f3
  have lf4 := fun p : LateOf w6 => p.cell f4
  have lf5 := fun p : LateOf w6 => p.cell f5
  have lf6 := fun p : LateOf w6 => p.cell f6
  have lu0 := fun p : LateOf w6 => p.cell u0
  have lu1 := fun p : LateOf w6 => p.cell u1
  have lu2 := fun p : LateOf w6 => p.cell u2
  have lv0 := fun p : LateOf w6 => p.cell v0
  have lv1 := fun p : LateOf w6 => p.cell v1
  have lv2 := fun p : LateOf w6 => p.cell v2
  have lv5 := fun p : LateOf w6 => p.cell v5
  clear d0 d1 d2 d3 d4 d5 d6 e0 e1 e2 e3 e4 e5 e6 f0 f1 f2 f3 f4 f5 f6 u0 u1 u2 v0 v1 v2 v5
  refine wp_region_late (by kernel_rfl) (by kernel_rfl) ?_
  iterate 2 quiet_step (fail)
  quiet_step ((go_at_call 12; with_reducible exact late _ (cA _)))
  iterate 3 quiet_step (fail)
  quiet_step ((go_at_call 12; with_reducible exact late _ (cB _)))
  clear cA cB
  iterate 11 quiet_step (fail)
  repeat (quiet_step (fail))
  refine wpQuiet_nil ?_
  intro w7 hw'
  have hb7 : Below w6.heap.size w6 w7 := by obtain ⟨p, rfl⟩ := hw'; exact p.h
  go_wp2_with fail
  go_ret
  exact ⟨rfl, HB.out.trans (hb7.mono HB.out.size)⟩
end Go.Proofs.YtoanelobggledaaGreatDoor

namespace Go.Proofs.YtoanelobggledaaGreatDoor
open Go.RowKit

theorem MRow.two {w : World} {g : Nat} {m n : Msg} (h : w.heap[g]? = some (.cells #[.string m.a, .string m.b, .int .i64 m.st, .string m.c, .int .i64 m.mi, m.fv, m.bv, .string n.a, .string n.b, .int .i64 n.st, .string n.c, .int .i64 n.mi, n.fv, n.bv] 27 (0, 0))) : MRow w g [m, n] := by
  refine ⟨lt_of_block h, fun k hk => ?_⟩
  have e : ∀ i, w.cell? ⟨g, i, none⟩ = (#[Value.string m.a, .string m.b, .int .i64 m.st, .string m.c, .int .i64 m.mi, m.fv, m.bv, .string n.a, .string n.b, .int .i64 n.st, .string n.c, .int .i64 n.mi, n.fv, n.bv] : Array Value)[i]? := fun i => by simp only [World.cell?, h]; rfl
  match k, hk with
  | 0, _ => exact ⟨e 0, e 1, e 2, e 3, e 4, e 5, e 6⟩
  | 1, _ => exact ⟨e 7, e 8, e 9, e 10, e 11, e 12, e 13⟩
  | k + 2, hk => exact absurd hk (by simp)
end Go.Proofs.YtoanelobggledaaGreatDoor

namespace Go.Proofs.YtoanelobggledaaGreatDoor
open Go.RowKit

theorem blk_stay {w w' : World} {g : Nat} {O : Obj} (h : w.heap[g]? = some O) (hb : Below w.heap.size w w') : w'.heap[g]? = some O := by
  rw [hb.block g (lt_of_block h)]; exact h
end Go.Proofs.YtoanelobggledaaGreatDoor

namespace Go.Proofs.YtoanelobggledaaGreatDoor
open Go.RowKit

theorem shortB_few {m : Msg} (h : shortB m = true) : m.fs.length ≤ 30 := by
  unfold shortB at h
  simp only [Bool.and_eq_true, decide_eq_true_eq] at h
  exact (shortR_spec h.1.1).1
theorem update_mid {K F : List Fld.F} (hk : Mid K) (hf : Mid F) (h : K.length + F.length ≤ 100) : Mid (Rl.update K F) := by
  have h1 := Fld.withoutAll_length ((Rl.more F).map (·.1)) K
  have h2 : (Rl.more F).length ≤ F.length := by unfold Rl.more; exact Nat.le_trans (Fld.withoutAll_length _ _) (by rw [Rl.kept_drop]; exact Fld.drop_length _ _)
  refine ⟨by unfold Rl.update; rw [List.length_append]; omega, fun f hf' => ?_⟩
  unfold Rl.update at hf'
  rcases List.mem_append.1 hf' with h | h
  · exact hk.2 f (Fld.withoutAll_sub _ _ h)
  · exact hf.2 f (Rl.more_sub h)
end Go.Proofs.YtoanelobggledaaGreatDoor

