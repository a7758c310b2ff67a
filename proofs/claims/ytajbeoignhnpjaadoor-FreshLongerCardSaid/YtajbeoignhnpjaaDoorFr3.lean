/- Package fresh: the laws' awake. -/
import Derived.Test.YtajbeoignhnpjaaDoorFr2
import Derived.Deep.RegionHeld3
namespace Go.Proofs.YtajbeoignhnpjaaDoor
open Go.RowKit

abbrev ten : List UInt8 := [49, 48]
theorem ten_ne : ten ≠ [] := by decide
theorem ten_dig : Oct.allOf (Oct.dig 10) ten = true := by decide
theorem ten_val : Ctl.val 0 ten = 10 := by decide
theorem ten_age (D : List UInt8 → Option Int) : Fr.age D (Fr.aged ten) 100 102 105 = 5 := by
  rw [Fr.aged_old D ten 100 102 105 (by decide) (by decide) (by decide) (by decide) (by decide)]; rfl
theorem ten_yes (D : List UInt8 → Option Int) : Fr.fresh D 200 (Fr.aged ten) 100 102 109 = true := by
  unfold Fr.fresh
  rw [Fr.aged_old D ten 100 102 109 (by decide) (by decide) (by decide) (by decide) (by decide), Fr.aged_life D 200 ten ten_ne ten_dig, ten_val]; decide
theorem ten_no (D : List UInt8 → Option Int) : Fr.fresh D 200 (Fr.aged ten) 100 102 110 = false := by
  unfold Fr.fresh
  rw [Fr.aged_old D ten 100 102 110 (by decide) (by decide) (by decide) (by decide) (by decide), Fr.aged_life D 200 ten ten_ne ten_dig, ten_val]; decide
theorem ten_short : shortR (Fr.aged ten) = true := by decide

set_option maxHeartbeats 1600000 in
set_option maxRecDepth 100000 in
theorem awake_w {D : List UInt8 → Option Int} {Env : World → Prop} (R : Prog10 D Env) (w : World) (he : Env w) :
    Calls Tryd.prog 6 #[] w fun e w' => e = .returned (.bool true) ∧ Below w.heap.size w w' := by
  obtain ⟨W, hW⟩ : ∃ W, W = w.alloc (.cells #[.int .i64 100, .int .i64 102] 29) := ⟨_, rfl⟩
  have hbw : Below w.heap.size w W := by rw [hW]; exact (Below.refl _ w).alloc (Nat.le_refl _) _
  have hc := tcells (w := W) (g := w.heap.size) (a := 100) (b := 102) (by rw [hW]; exact heap_alloc_new w _)
  have hE : Env W := R.later he hbw
  have CA : Hid (∀ W', Below W.heap.size W W' → Calls Tryd.prog 13 #[.string ⟨#[49, 48]⟩] W' fun e w' => (∃ fv bv, e = .returned (mv ⟨#[]⟩ ⟨#[]⟩ 200 ⟨#[]⟩ 1 fv bv) ∧ FIn w' fv (Fr.aged ten) ∧ Sl bv) ∧ Below W'.heap.size W' w') := Lib.hid fun W' _ => aged_w ten W' (by decide)
  have CG : Hid (∀ fv bv W', Below W.heap.size W W' → FIn W' fv (Fr.aged ten) ∧ Sl bv → Calls Tryd.prog 8 #[mv ⟨#[]⟩ ⟨#[]⟩ 200 ⟨#[]⟩ 1 fv bv, .agg #[.int .i64 100, .int .i64 102], .int .i64 105] W' fun e w' => e = .returned (.int .i64 5) ∧ Below W'.heap.size W' w') := Lib.hid fun fv bv W' hb hf => by
    have := R.age ⟨#[]⟩ ⟨#[]⟩ ⟨#[]⟩ 200 1 fv bv (Fr.aged ten) 100 102 105 W' (R.later hE hb) hf.1 hf.2 ten_short (by unfold I64; omega) (by unfold I64; omega) (by unfold I64; omega)
    rw [ten_age] at this; exact this
  have CY : Hid (∀ fv bv W', Below W.heap.size W W' → FIn W' fv (Fr.aged ten) ∧ Sl bv → Calls Tryd.prog 9 #[mv ⟨#[]⟩ ⟨#[]⟩ 200 ⟨#[]⟩ 1 fv bv, .agg #[.int .i64 100, .int .i64 102], .int .i64 109] W' fun e w' => e = .returned (.bool true) ∧ Below W'.heap.size W' w') := Lib.hid fun fv bv W' hb hf => by
    have := R.fresh ⟨#[]⟩ ⟨#[]⟩ ⟨#[]⟩ 200 1 fv bv (Fr.aged ten) 100 102 109 W' (R.later hE hb) hf.1 hf.2 ten_short (by unfold I64; omega) (by unfold I64; omega) (by unfold I64; omega)
    rw [ten_yes] at this; exact this
  have CN : Hid (∀ fv bv W', Below W.heap.size W W' → FIn W' fv (Fr.aged ten) ∧ Sl bv → Calls Tryd.prog 9 #[mv ⟨#[]⟩ ⟨#[]⟩ 200 ⟨#[]⟩ 1 fv bv, .agg #[.int .i64 100, .int .i64 102], .int .i64 110] W' fun e w' => e = .returned (.bool false) ∧ Below W'.heap.size W' w') := Lib.hid fun fv bv W' hb hf => by
    have := R.fresh ⟨#[]⟩ ⟨#[]⟩ ⟨#[]⟩ 200 1 fv bv (Fr.aged ten) 100 102 110 W' (R.later hE hb) hf.1 hf.2 ten_short (by unfold I64; omega) (by unfold I64; omega) (by unfold I64; omega)
    rw [ten_no] at this; exact this
  have HS : Hid (∀ W', Below W.heap.size W W' → W'.cell? ⟨w.heap.size, 0, none⟩ = some (.int .i64 100) ∧ W'.cell? ⟨w.heap.size, 1, none⟩ = some (.int .i64 102)) := Lib.hid fun W' hb =>
    ⟨(hb.cell (p := ⟨w.heap.size, 0, none⟩) (World.block_lt_of_cell? _ _ hc.1)).trans hc.1, (hb.cell (p := ⟨w.heap.size, 1, none⟩) (World.block_lt_of_cell? _ _ hc.2)).trans hc.2⟩
  have K0 : Hid (Below W.heap.size W W.drew) := Lib.hid ((Below.refl _ W).drew)
  have HB := Lib.hid hbw
  clear R he hE hc hbw
  go_enter Tryd.func6, Tryd.ntmps6
  go_upto_region 2 with fail
  rw [← hW]
  clear hW
  go_region_held3 (fun w' => w'.cell? ⟨w.heap.size, 0, none⟩ = some (.int .i64 100) ∧ w'.cell? ⟨w.heap.size, 1, none⟩ = some (.int .i64 102))
    (first
      | with_reducible exact HS.out _ K0.out | with_reducible exact HS.out _ K6.out | with_reducible exact HS.out _ K5.out | with_reducible exact HS.out _ K4.out
      | with_reducible exact HS.out _ K3.out | with_reducible exact HS.out _ K2.out | with_reducible exact HS.out _ K1.out)
    (first
      | (go_at_call 9; (with_reducible refine (CN.out f5 b5 w5 K5.out F5.out).mono ?_); rintro e w6 ⟨rfl, hb⟩; have K6 := Lib.hid (K5.out.trans (hb.mono K5.out.size)); clear hb)
      | (go_at_call 13; (with_reducible refine (CA.out w4 K4.out).mono ?_); rintro e w5 ⟨⟨f5, b5, rfl, hf⟩, hb⟩; have K5 := Lib.hid (K4.out.trans (hb.mono K4.out.size)); have F5 := Lib.hid hf; clear hf hb)
      | (go_at_call 9; (with_reducible refine (CY.out f3 b3 w3 K3.out F3.out).mono ?_); rintro e w4 ⟨rfl, hb⟩; have K4 := Lib.hid (K3.out.trans (hb.mono K3.out.size)); clear hb)
      | (go_at_call 13; (with_reducible refine (CA.out w2 K2.out).mono ?_); rintro e w3 ⟨⟨f3, b3, rfl, hf⟩, hb⟩; have K3 := Lib.hid (K2.out.trans (hb.mono K2.out.size)); have F3 := Lib.hid hf; clear hf hb)
      | (go_at_call 8; (with_reducible refine (CG.out f1 b1 w1 K1.out F1.out).mono ?_); rintro e w2 ⟨rfl, hb⟩; have K2 := Lib.hid (K1.out.trans (hb.mono K1.out.size)); clear hb)
      | (go_at_call 13; (with_reducible refine (CA.out W.drew K0.out).mono ?_); rintro e w1 ⟨⟨f1, b1, rfl, hf⟩, hb⟩; have K1 := Lib.hid (K0.out.trans (hb.mono K0.out.size)); have F1 := Lib.hid hf; clear hf hb))
  go_wp2_with fail
  go_ret
  exact ⟨rfl, HB.out.trans (K6.out.mono HB.out.size)⟩
end Go.Proofs.YtajbeoignhnpjaaDoor
