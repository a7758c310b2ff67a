/- The document's own page (layer 14): Sectors. -/
import Derived.Test.YtlipgphmhkjnpaaDoorPgS
namespace Pg
theorem secs_snoc : ∀ (n : Nat) (b : L), secs (n + 1) b = secs n b ++ [pad ((b.drop (64 * n)).take 64)]
  | 0, b => by simp [secs]
  | n + 1, b => by
    show pad (b.take 64) :: secs (n + 1) (b.drop 64) = (pad (b.take 64) :: secs n (b.drop 64)) ++ _
    rw [secs_snoc n (b.drop 64), List.drop_drop, List.cons_append]
    congr 6
    omega
theorem pad_set (x : List UInt8) (j : Nat) (hj : j < x.length) (hx : x.length ≤ 64) : (x.take j ++ List.replicate (64 - j) (0 : UInt8)).set j x[j] = x.take (j + 1) ++ List.replicate (64 - (j + 1)) 0 := by
  have h1 : (x.take j).length = j := by rw [List.length_take]; omega
  rw [List.set_append, if_neg (by omega), h1, Nat.sub_self, List.take_succ_eq_append_getElem hj, List.append_assoc]
  congr 1
  rw [show 64 - j = 64 - (j + 1) + 1 by omega, List.replicate_succ]
  rfl
end Pg
namespace Go.Proofs.YtlipgphmhkjnpaaDoor
open Go.RowKit
def slen : Value → Nat
  | .slice _ n _ => n
  | _ => 0
theorem Blk.oin {F : Nat → Prop} {w : World} {g n cap : Nat} {l : List UInt8} (h : Blk w g l) (hF : F g) (hn : n = l.length) (hc : n ≤ cap) (h9 : cap ≤ 9223372036854775807) : OIn F w (.slice (some ⟨g, 0, none⟩) n cap) l := by
  obtain ⟨C, h1, h2, h3⟩ := h
  refine ⟨g, 0, cap, C, _, by rw [hn], by omega, h9, hF, h1, fun j hj => ?_⟩
  have h4 : (Lib.byteCells l)[j]? = some (.int .u8 (l[j].toNat : Int)) := by simp [Lib.byteCells, hj]
  rw [← h3, List.getElem?_take_of_lt hj] at h4
  rw [Nat.zero_add]
  simpa using h4

set_option maxHeartbeats 3200000 in
set_option maxRecDepth 100000 in
theorem rSectors_w (v : Value) (l : List UInt8) (w : World) (h : BIn w v l) (hl : l.length ≤ 100000) :
    Calls Tryd.prog 16 #[v] w fun e w' => ∃ u, e = .returned u ∧ SecRow w w' u (Pg.sectors l) := by
  have HB := Lib.hid h
  clear h
  go_enter Tryd.func16, Tryd.ntmps16
  go_wp2_with fail
  go_loopw [0, 3] (fun b o wr => ∃ k : Nat, 64 * k < l.length + 64 ∧ Hid (BIn w b (l.drop (64 * k))) ∧ Hid (SecRow w wr o (Pg.secs k l))) (fun b _ _ => slen b)
  case atStart => exact ⟨0, by omega, Lib.hid (by rw [Nat.mul_zero, List.drop_zero]; exact HB.out), Lib.hid (SecRow.nil w)⟩
  case round =>
    obtain ⟨k, hk, HD, HR⟩ := hrel
    obtain ⟨wo, hwo⟩ : ∃ wo : World, wo = wr := ⟨_, rfl⟩
    subst hwo
    obtain ⟨D, hD⟩ : ∃ D, D = l.drop (64 * k) := ⟨_, rfl⟩
    have hDl : D.length = l.length - 64 * k := by rw [hD, List.length_drop]
    have HDD := Lib.hid hD
    rw [← hD] at HD
    clear hD
    obtain ⟨ao, cap, rfl, hlc, hc9, hg⟩ := HD.out
    obtain ⟨M, hM⟩ : ∃ M, M = D.length := ⟨_, rfl⟩
    have HM := Lib.hid hM
    rw [← hM] at hlc HD hDl ⊢
    have HDL := Lib.hid hDl
    clear hDl
    by_cases h0 : M = 0
    · subst h0
      have e : Pg.secs k l = Pg.sectors l := by have := HDL.out; unfold Pg.sectors; congr 1; omega
      rw [e] at HR
      go_wp2_with fail
      go_ret
      exact ⟨_, rfl, HR.out⟩
    · obtain ⟨bk, ok, rfl, hbk, hcl⟩ := hg.resolve_left (fun e => h0 (by rw [hM, e]; rfl))
      clear hg
      obtain ⟨q, hq⟩ : ∃ q, q = min 64 M := ⟨_, rfl⟩
      obtain ⟨x, hx⟩ : ∃ x, x = D.take 64 := ⟨_, rfl⟩
      have hxq : x.length = q := by rw [hx, List.length_take, hq, ← hM]
      have hxat : ∀ j (hj : j < q), ∃ y : UInt8, x[j]? = some y ∧ w.cell? ⟨bk, ok + j, none⟩ = some (.int .u8 (y.toNat : Int)) := fun j hj => by
        have hjM : j < D.length := by omega
        refine ⟨D[j], ?_, hcl j hjM⟩
        rw [hx, List.getElem?_take_of_lt (by omega), List.getElem?_eq_getElem hjM]
      have hq64 : q ≤ 64 := by omega
      have hqM : q ≤ M := by omega
      have hq0 : 0 < q := by omega
      have HQ := Lib.hid hq
      have HXX := Lib.hid hx
      have HXQ := Lib.hid hxq
      have HXA := Lib.hid hxat
      have hmk : (Instr.makeSlice 23 (.int .i64 64) (.int .i64 64)).run Tryd.prog wo = .ok (.slice (some ⟨wo.heap.size, 0, none⟩) 64 64) (wo.alloc (.cells (madeCells #[.int .u8 0] 64) 5)) := run_make_row' (P := Tryd.prog) 23 5 (.int .u8 0) 1 Tryd.underlying23 bytes_info rfl .i64 .i64 64 (by omega) (by omega) wo
      have hm1 := Blk.made wo 64
      have hb1 : Below wo.heap.size wo (wo.alloc (.cells (madeCells #[.int .u8 0] 64) 5)) := (Below.refl _ wo).alloc (Nat.le_refl _) _
      have hMi : (0 : Int) < M := by omega
      clear hq hx hxq hxat hcl hM
      go_upto_region 4 with fail
      clear hmk
      generalize wo.alloc (.cells (madeCells #[.int .u8 0] 64) 5) = w1 at hm1 hb1 ⊢
      obtain ⟨g, hgg⟩ : ∃ g, g = wo.heap.size := ⟨_, rfl⟩
      have HGG : Hid (wo.heap.size ≤ g) := Lib.hid (by omega)
      rw [← hgg] at hm1 ⊢
      have HB1 := Lib.hid (And.intro hb1 hm1)
      clear hgg hb1 hm1
      go_upto_if 13 with fail
      go_cut [5] (fun u5 wx => u5 = .int .i64 (q : Int) ∧ w1 = wx)
      case first =>
        by_cases h64 : (M : Int) < 64
        · have e9 : q = M := by have := HQ.out; omega
          subst e9
          go_wp2_with fail
          go_meet
          exact ⟨rfl, rfl⟩
        · have e9 : q = 64 := by have := HQ.out; omega
          subst e9
          go_wp2_with fail
          go_meet
          exact ⟨rfl, rfl⟩
      case rest =>
        obtain ⟨rfl, rfl⟩ := hcut
        go_wp2_with fail
        go_loopw [6] (fun i wr => ∃ j : Nat, j ≤ q ∧ i = .int .i64 j ∧ Hid (Below wo.heap.size wo wr ∧ Blk wr g (x.take j ++ List.replicate (64 - j) 0))) (fun i _ => q - (intOf i).toNat)
        case atStart => exact ⟨0, Nat.zero_le _, rfl, Lib.hid HB1.out⟩
        case round =>
          obtain ⟨j, hj, rfl, HX⟩ := hrel
          clear HB1
          by_cases hlt : j < q
          · have hji : (j : Int) < q := by omega
            have hjM : (j : Int) < M := by omega
            have hjx : j < x.length := by rw [HXQ.out]; exact hlt
            obtain ⟨y, hy, q1⟩ := HXA.out j hlt
            have q2 := cell_later (bt5 HR.out.below HX.out.1) q1
            have h3 := HX.out.2.cell j (by simp only [List.length_append, List.length_take, List.length_replicate]; omega)
            have c3 := h3.1
            have f3 := h3.2
            have H5 := And.intro (set_below (k := j) (v := .int .u8 (y.toNat : Int)) HX.out.1 HGG.out) (HX.out.2.set j y _ rfl)
            have hyx : x[j] = y := by rw [List.getElem?_eq_getElem hjx] at hy; injection hy
            rw [← hyx, Pg.pad_set x j hjx (by rw [HXQ.out]; exact hq64), hyx] at H5
            have HX5 := Lib.hid H5
            clear H5 h3 q1 HX hy hyx
            go_wp2_with fail
            go_roundw
            case rel => exact ⟨j + 1, by omega, by go_num, HX5⟩
            case measure => simp [intOf]; omega
          · have hji : ¬ (j : Int) < q := by omega
            obtain rfl : j = q := by omega
            have ep : x.take j ++ List.replicate (64 - j) 0 = Pg.pad x := by rw [List.take_of_length_le (by rw [HXQ.out]; exact Nat.le_refl _)]; unfold Pg.pad; rw [HXQ.out]
            have hX := HX.out
            rw [ep] at hX
            have hpl : (Pg.pad x).length = 64 := Pg.pad_length (by rw [HXQ.out]; exact hq64)
            have hb9 : Below wr.heap.size wr (wr.alloc (.cells #[.slice (some ⟨g, 0, none⟩) 64 64] 23)) := (Below.refl _ wr).alloc (Nat.le_refl _) _
            have hr9 := heap_alloc_new wr (.cells #[.slice (some ⟨g, 0, none⟩) 64 64] 23)
            have hs9 := (HR.out.later hX.1).later hb9
            have ho9 : OIn (Fresh w) (wr.alloc (.cells #[.slice (some ⟨g, 0, none⟩) 64 64] 23)) (.slice (some ⟨g, 0, none⟩) 64 64) (Pg.pad x) :=
              (hX.2.oin (F := Fresh w) (Nat.le_trans HR.out.below.size HGG.out) (by rw [hpl]) (Nat.le_refl _) (by decide)).keep (fun _ hf => hf) (fun k9 _ _ _ hb => hb9.block k9 (lt_of_block hb))
            obtain ⟨v', w', hrun, hsec⟩ := hs9.more ho9 (by rw [Pg.secs_length]; omega) wr.heap.size (blk_cell hr9 0 _ rfl).1
            rw [HXX.out, HDD.out, ← Pg.secs_snoc] at hsec
            have HSEC := Lib.hid hsec
            have hmid := HD.out.mid j M hqM (by rw [HM.out]; exact Nat.le_refl _)
            have em : (D.take M).drop j = l.drop (64 * (k + 1)) := by
              rw [List.take_of_length_le (by rw [HM.out]; exact Nat.le_refl _)]
              by_cases h64 : 64 ≤ M
              · have : j = 64 := by have := HQ.out; omega
                rw [this, HDD.out, List.drop_drop]; congr 1
              · have : j = M := by have := HQ.out; omega
                rw [List.drop_of_length_le (by rw [← HM.out]; omega), List.drop_of_length_le (by have := HDL.out; omega)]
            rw [em] at hmid
            have HMID := Lib.hid hmid
            clear hmid em hsec hs9 ho9 hr9 hb9 hX ep hpl HX
            by_cases hcq : cap = j
            · rw [if_pos hcq] at HMID
              have hk1 : 64 * (k + 1) < l.length + 64 := by have := HDL.out; omega
              obtain rfl : M = j := by omega
              subst hcq
              rw [Nat.sub_self] at HMID
              go_wp2_with (at_builtin; refine Lib.wpList_append_run _ rfl _ _ _ _ rfl _ _ rfl rfl _ _ hrun ?_)
              go_roundw
              case rel => exact ⟨k + 1, hk1, HMID, HSEC⟩
              case measure => simp [slen]; omega
            · rw [if_neg hcq, Addr.add_lit] at HMID
              have hk1 : 64 * (k + 1) < l.length + 64 := by have := HDL.out; omega
              go_wp2_with (at_builtin; refine Lib.wpList_append_run _ rfl _ _ _ _ rfl _ _ rfl rfl _ _ hrun ?_)
              go_roundw
              case rel => exact ⟨k + 1, hk1, HMID, HSEC⟩
              case measure => simp [slen]; omega
end Go.Proofs.YtlipgphmhkjnpaaDoor
