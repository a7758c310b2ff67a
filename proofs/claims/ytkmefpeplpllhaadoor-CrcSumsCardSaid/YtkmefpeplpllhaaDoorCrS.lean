/- The law CrcSums. -/
import Derived.Test.YtkmefpeplpllhaaDoorCrJ
import Derived.Test.YtkmefpeplpllhaaDoorRel
namespace Go.Proofs.YtkmefpeplpllhaaDoor
open Go.RowKit

theorem mod_at (a : Int) (N : Nat) (hN : N ≤ 1000000) : ∃ (q : Int) (k : Nat), a.tmod ((N : Int) + 1) = q ∧ IntKind.i64.wrap (q + N) = q + N ∧ IntKind.i64.wrap (q + N + 1) = q + N + 1 ∧ (q + N + 1).tmod ((N : Int) + 1) = k ∧ k ≤ N := by
  have h2 : -((N : Int) + 1) < a.tmod ((N : Int) + 1) ∧ a.tmod ((N : Int) + 1) < (N : Int) + 1 := by
    constructor
    · have := Int.lt_tmod_of_pos a (b := (N : Int) + 1) (by omega); omega
    · exact Int.tmod_lt_of_pos a (by omega)
  generalize a.tmod ((N : Int) + 1) = q at h2
  have h4 := Int.emod_nonneg (q + N + 1) (b := (N : Int) + 1) (by omega)
  have h5 := Int.emod_lt_of_pos (q + N + 1) (b := (N : Int) + 1) (by omega)
  refine ⟨q, ((q + N + 1) % ((N : Int) + 1)).toNat, rfl, ?_, ?_, ?_, ?_⟩
  · rw [IntKind.wrap_i64]; omega
  · rw [IntKind.wrap_i64]; omega
  · rw [Int.tmod_eq_emod_of_nonneg (by omega)]; omega
  · omega
/-- All from the k-th on. -/
theorem BIn.from_ {w : World} {a : Option Addr} {m c : Nat} {l : List UInt8} (h : BIn w (.slice a m c) l) (k : Nat) (hk : k ≤ l.length) : BIn w (.slice (if c = k then a else a.map (·.add k)) (m - k) (c - k)) (l.drop k) := by
  obtain ⟨ao, cap, hv, h1, h2, hg⟩ := h
  injection hv with hv1 hv2 hv3
  subst hv1 hv2 hv3
  refine ⟨_, c - k, by rw [List.length_drop], by rw [List.length_drop]; omega, by omega, ?_⟩
  by_cases hkl : k = l.length
  · left; rw [List.drop_of_length_le (by omega)]
  · right
    rcases hg with rfl | ⟨b, o, rfl, hb, hc⟩
    · simp at hk; exact absurd hk (by simpa using hkl)
    · rw [if_neg (by omega)]
      refine ⟨b, o + k, by rw [Option.map_some, Addr.add_lit], hb, fun j hj => ?_⟩
      rw [List.length_drop] at hj
      rw [Nat.add_assoc, hc (k + j) (by omega)]
      simp
theorem bs_box {W : World} {g n : Nat} (xs : List Value) (ls : List (List UInt8)) (hx : xs.length = n) (hl : ls.length = n) (hn : n ≤ 1000) (h0 : 0 < n) (hc : ∀ j (hj : j < xs.length), W.cell? ⟨g, j, none⟩ = some xs[j]) (hi : ∀ j (hj : j < n), BIn W (xs[j]'(by omega)) (ls[j]'(by omega)) ∧ NilOk (xs[j]'(by omega))) : BsIn W (.slice (some ⟨g, 0, none⟩) n n) ls := by
  subst hl
  refine ⟨_, _, rfl, Nat.le_refl _, by omega, .inr ⟨g, 0, rfl, World.block_lt_of_cell? W _ (hc 0 (by omega)), fun j hj => ⟨xs[j]'(by omega), by rw [Nat.zero_add]; exact hc j (by omega), hi j hj⟩⟩⟩

set_option maxHeartbeats 3200000 in
set_option maxRecDepth 100000 in
theorem sums_w (v : Value) (ls : List (List UInt8)) (a : Int) (w : World) (h : BsIn w v ls) (hT : CTab w) :
    Calls Tryd.prog 3 #[v, .int .i64 a] w fun e w' => e = .returned (.bool true) ∧ Below w.heap.size w w' := by
  have cA := Lib.hid (fun (W : World) (hb : Below w.heap.size w W) => awake_w W (hT.later hb))
  have HV := Lib.hid h
  have HT := Lib.hid hT
  have HJ := Lib.hid (joined_w v ls w h)
  clear h hT
  go_enter Tryd.func3, Tryd.ntmps3
  go_wp2_with fail
  refine HJ.out.mono ?_
  rintro e w1 ⟨u, b, rfl, hb1, hj⟩
  clear HJ
  cases b with
  | false =>
    clear hj
    go_wp2_with fail
    refine (cA.out w1 hb1).mono ?_
    rintro e w2 ⟨rfl, hb2⟩
    have hb2 := bt5 hb1 hb2
    go_wp2_with fail
    refine (cA.out w2 hb2).mono ?_
    rintro e w3 ⟨rfl, hb3⟩
    go_wp2_with fail
    go_ret
    exact ⟨rfl, bt5 hb2 hb3⟩
  | true =>
    obtain ⟨hB, hlen⟩ := hj rfl
    clear hj
    obtain ⟨hin, hnil⟩ := hB.in_
    have HL := Lib.hid hlen
    clear hlen
    generalize hflat : ls.flatten = l at *
    have HFL := Lib.hid hflat
    clear hflat hB
    have HI := Lib.hid hin
    have HN := Lib.hid hnil
    obtain ⟨aa, ca, rfl, hca, hc9, _⟩ := hin
    obtain ⟨N, hN⟩ : ∃ N, N = l.length := ⟨_, rfl⟩
    have HNL := Lib.hid hN
    rw [← hN] at hca HI HN ⊢
    have hN5 : N ≤ 10500 := by rw [hN]; exact HL.out
    obtain ⟨q, k, m1, m2, m3, m4, hk⟩ := mod_at a N (by omega)
    clear hnil hN
    go_wp2_with fail
    refine (cA.out w1 hb1).mono ?_
    rintro e w2 ⟨rfl, hb2⟩
    have hb2 := bt5 hb1 hb2
    go_upto_region 4 with fail
    go_upto_region 5 with fail
    clear m1 m2 m3 m4
    have hb12 : Below w1.heap.size w1 w2 := by assumption
    have cR := rSum_w _ _ w2 (HI.out.later hb12)
    obtain ⟨z, hz⟩ : ∃ z, Cr.sum l = z := ⟨_, rfl⟩
    rw [hz] at cR
    go_wp2_with fail
    refine cR.mono ?_
    rintro e w3 ⟨rfl, rfl⟩
    go_upto_region 6 with fail
    clear cR
    have HB2 := Lib.hid hb2
    have i0 := (HV.out.later hb2)
    have C0 : Hid (∀ W, Below w2.heap.size w2 W → Calls Tryd.prog 11 #[v] W fun e w' => e = .returned (.int .u32 (z : Int)) ∧ W = w') := Lib.hid (fun W hb => by
      have := Sum_w v ls W (i0.later hb) (HT.out.later (bt5 HB2.out hb))
      rw [HFL.out, hz] at this; exact this)
    have I1 := Lib.hid ((HI.out.cut k (by rw [← HNL.out]; exact hk)).later hb12)
    have I2 := Lib.hid ((HI.out.from_ k (by rw [← HNL.out]; exact hk)).later hb12)
    have O1 : Hid (NilOk (.slice aa k ca)) := Lib.hid (fun c e => by
      injection e with e1 e2 e3
      subst e1 e3
      obtain ⟨ao, cap, hv, h1, h2, hg⟩ := HI.out
      injection hv with hv1 hv2 hv3
      subst hv1
      rcases hg with rfl | ⟨b, o, hx, _⟩
      · subst hv2
        exact HN.out ca rfl
      · cases hx)
    have O2 : Hid (NilOk (.slice (if ca = k then aa else aa.map (·.add k)) (N - k) (ca - k))) := Lib.hid (fun c e => by
      injection e with e1 e2 e3
      cases aa with
      | some ad => split at e1 <;> cases e1
      | none => have := O1.out ca (by rw [show k = 0 by
          obtain ⟨ao, cap, hv, h1, h2, hg⟩ := HI.out
          injection hv with hv1 hv2 hv3
          subst hv1
          rcases hg with rfl | ⟨b, o, hx, _⟩
          · simp at hv2; omega
          · cases hx]); omega)
    have HNONE : Hid (aa = none → N = 0 ∧ ca = 0 ∧ k = 0) := Lib.hid (fun e => by
      subst e
      obtain ⟨ao, cap, hv, h1, h2, hg⟩ := HI.out
      injection hv with hv1 hv2 hv3
      subst hv1
      rcases hg with rfl | ⟨b, o, hx, _⟩
      · simp at hv2
        subst hv2
        exact ⟨rfl, HN.out ca rfl, by omega⟩
      · cases hx)
    obtain ⟨x, hx⟩ : ∃ x, x = l.take k := ⟨_, rfl⟩
    obtain ⟨y, hy⟩ : ∃ y, y = l.drop k := ⟨_, rfl⟩
    have hxy : x ++ y = l := by rw [hx, hy, List.take_append_drop]
    rw [← hx] at I1
    rw [← hy] at I2
    obtain ⟨s, hs⟩ : ∃ s, Cr.sum x = s := ⟨_, rfl⟩
    have hsl : s < 4294967296 := by rw [← hs]; exact Cr.sum_lt x
    have hm1 : Cr.more s y = z := by rw [← hs, Cr.more_sum, hxy, hz]
    have hm2 : Cr.more 0 (x ++ ([] ++ (y ++ []))) = z := by rw [Cr.more_zero, List.nil_append, List.append_nil, hxy, hz]
    obtain ⟨a2, ha2⟩ : ∃ a2, a2 = (if ca = k then aa else aa.map (·.add k)) := ⟨_, rfl⟩
    obtain ⟨m2, hm2'⟩ : ∃ m2, m2 = N - k := ⟨_, rfl⟩
    obtain ⟨c2, hc2'⟩ : ∃ c2, c2 = ca - k := ⟨_, rfl⟩
    rw [← ha2, ← hm2', ← hc2'] at I2 O2
    have C1 : Hid (∀ W g, Below w2.heap.size w2 W → W.cell? ⟨g, 0, none⟩ = some (.slice aa k ca) → Calls Tryd.prog 11 #[.slice (some ⟨g, 0, none⟩) 1 1] W fun e w' => e = .returned (.int .u32 (s : Int)) ∧ W = w') := Lib.hid (fun W g hb hc => by
      have := Sum_w (.slice (some ⟨g, 0, none⟩) 1 1) [x] W (bs_box [.slice aa k ca] [x] rfl rfl (by decide) (by decide) (fun j hj => by
        match j, hj with
        | 0, _ => exact hc) (fun j hj => by
        match j, hj with
        | 0, _ => exact ⟨I1.out.later hb, O1.out⟩)) (HT.out.later (bt5 HB2.out hb))
      rw [List.flatten_singleton, hs] at this; exact this)
    have C2 : Hid (∀ W g, Below w2.heap.size w2 W → W.cell? ⟨g, 0, none⟩ = some (.slice a2 m2 c2) → Calls Tryd.prog 12 #[.int .u32 s, .slice (some ⟨g, 0, none⟩) 1 1] W fun e w' => e = .returned (.int .u32 (z : Int)) ∧ W = w') := Lib.hid (fun W g hb hc => by
      have := More_w s (.slice (some ⟨g, 0, none⟩) 1 1) [y] W hsl (bs_box [.slice a2 m2 c2] [y] rfl rfl (by decide) (by decide) (fun j hj => by
        match j, hj with
        | 0, _ => exact hc) (fun j hj => by
        match j, hj with
        | 0, _ => exact ⟨I2.out.later hb, O2.out⟩)) (HT.out.later (bt5 HB2.out hb))
      rw [List.flatten_singleton, hm1] at this; exact this)
    have C3 : Hid (∀ W g, Below w2.heap.size w2 W → W.cell? ⟨g, 0, none⟩ = some (.slice aa k ca) → W.cell? ⟨g, 1, none⟩ = some (.slice none 0 0) → W.cell? ⟨g, 2, none⟩ = some (.slice a2 m2 c2) → Calls Tryd.prog 12 #[.int .u32 0, .slice (some ⟨g, 0, none⟩) 3 3] W fun e w' => e = .returned (.int .u32 (z : Int)) ∧ W = w') := Lib.hid (fun W g hb hc0 hc1 hc2 => by
      have := More_w 0 (.slice (some ⟨g, 0, none⟩) 3 3) [x, [], y] W (by decide) (bs_box [.slice aa k ca, .slice none 0 0, .slice a2 m2 c2] [x, [], y] rfl rfl (by decide) (by decide) (fun j hj => by
        match j, hj with
        | 0, _ => exact hc0
        | 1, _ => exact hc1
        | 2, _ => exact hc2) (fun j hj => by
        match j, hj with
        | 0, _ => exact ⟨I1.out.later hb, O1.out⟩
        | 1, _ => exact bin_nil W
        | 2, _ => exact ⟨I2.out.later hb, O2.out⟩)) (HT.out.later (bt5 HB2.out hb))
      rw [show ([x, [], y] : List (List UInt8)).flatten = x ++ ([] ++ (y ++ [])) from rfl, hm2] at this; exact this)
    have HV2 := Lib.hid (show Value.slice a2 m2 c2 = Value.slice (if ca = k then aa else aa.map (·.add k)) (N - k) (ca - k) by rw [ha2, hm2', hc2'])
    clear i0 I1 I2 O1 O2 hx hy hxy hs hm1 hm2 hz ha2 hm2' hc2' HI HN HT HV HL hb12 hb1
    have hkc : k ≤ ca := by omega
    refine Rel.region_of (by kernel_rfl) [some 36, some 37, some 38, some 39, some 40, some 41, some 42, some 43, some 44, some 45, some 46, some 47, some 48, some 49, some 50, some 51, some 52, some 53, some 54, some 55, some 56, some 57, some 58, some 59, some 60, some 61, some 62, some 63, some 64, some 65, some 4] (by kernel_rfl) (by kernel_rfl) [.eq (v), .eq (.int .u32 (z : Int)), .eq (.int .u32 (z : Int)), .eq (.bool true), .eq (.bool true), .eq (.slice aa N ca), .eq (.int .i64 (k : Int)), .eq (.slice aa k ca), .box [.slice aa k ca], .eq (.int .u32 (s : Int)), .eq (.slice aa N ca), .eq (.int .i64 (k : Int)), .eq (.slice a2 m2 c2), .box [.slice a2 m2 c2], .eq (.int .u32 (z : Int)), .eq (.int .u32 (z : Int)), .eq (.bool true), .eq (.bool true), .eq (.bool true), .eq (.slice aa N ca), .eq (.int .i64 (k : Int)), .eq (.slice aa k ca), .eq (.slice aa N ca), .eq (.int .i64 (k : Int)), .eq (.slice a2 m2 c2), .box [.slice aa k ca, .slice none 0 0, .slice a2 m2 c2], .eq (.int .u32 (z : Int)), .eq (.int .u32 (z : Int)), .eq (.bool true), .eq (.bool true), .eq (.bool true)] ⟨?_, ?_, ?_, ?_, ?_, ?_, ?_, ?_, ?_, ?_, ?_, ?_, ?_, ?_, ?_, ?_, ?_, ?_, ?_, ?_, ?_, ?_, ?_, ?_, ?_, ?_, ?_, ?_, ?_, ?_, ?_, trivial⟩ ?_
    · intro u w9 hb9 hd9
      clear hd9
      refine ⟨?_⟩
      simp only [Rel.canD, List.take_zero]
      go_wp2_with fail
      exact ⟨rfl, rfl, Below.refl _ _, rfl⟩
    · intro u w9 hb9 hd9
      have e0 : u 0 = v := hd9 0 (by kernel_rfl)
      clear hd9
      refine ⟨?_⟩
      simp only [Rel.canD, List.take_succ_cons, List.take_zero, Nat.reduceAdd]
      go_wp2_with fail
      refine (C0.out w9 hb9).mono ?_
      rintro e w8 ⟨rfl, rfl⟩
      go_wp2_with fail
      exact ⟨rfl, rfl, Below.refl _ _, rfl⟩
    · intro u w9 hb9 hd9
      clear hd9
      refine ⟨?_⟩
      simp only [Rel.canD, List.take_succ_cons, List.take_zero, Nat.reduceAdd]
      go_wp2_with fail
      exact ⟨rfl, rfl, Below.refl _ _, rfl⟩
    · intro u w9 hb9 hd9
      have e1 : u 1 = .int .u32 (z : Int) := hd9 1 (by kernel_rfl)
      have e2 : u 2 = .int .u32 (z : Int) := hd9 2 (by kernel_rfl)
      clear hd9
      refine ⟨?_⟩
      simp only [Rel.canD, List.take_succ_cons, List.take_zero, Nat.reduceAdd]
      go_wp2_with fail
      exact ⟨rfl, rfl, Below.refl _ _, rfl⟩
    · intro u w9 hb9 hd9
      have e3 : u 3 = .bool true := hd9 3 (by kernel_rfl)
      clear hd9
      refine ⟨?_⟩
      simp only [Rel.canD, List.take_succ_cons, List.take_zero, Nat.reduceAdd]
      go_wp2_with fail
      exact ⟨rfl, rfl, Below.refl _ _, rfl⟩
    · intro u w9 hb9 hd9
      have e4 : u 4 = .bool true := hd9 4 (by kernel_rfl)
      clear hd9
      refine ⟨?_⟩
      simp only [Rel.canD, List.take_succ_cons, List.take_zero, Nat.reduceAdd]
      go_wp2_with fail
      exact ⟨rfl, rfl, Below.refl _ _, rfl⟩
    · intro u w9 hb9 hd9
      have e4 : u 4 = .bool true := hd9 4 (by kernel_rfl)
      clear hd9
      refine ⟨?_⟩
      simp only [Rel.canD, List.take_succ_cons, List.take_zero, Nat.reduceAdd]
      go_wp2_with fail
      exact ⟨rfl, rfl, Below.refl _ _, rfl⟩
    · intro u w9 hb9 hd9
      have e4 : u 4 = .bool true := hd9 4 (by kernel_rfl)
      have e5 : u 5 = .slice aa N ca := hd9 5 (by kernel_rfl)
      have e6 : u 6 = .int .i64 (k : Int) := hd9 6 (by kernel_rfl)
      clear hd9
      cases aa with
      | none =>
        have n1 := (HNONE.out rfl).1
        have n2 := (HNONE.out rfl).2.1
        have n3 := (HNONE.out rfl).2.2
        subst n1 n2 n3
        refine ⟨?_⟩
        simp only [Rel.canD, List.take_succ_cons, List.take_zero, Nat.reduceAdd]
        go_wp2_with fail
        exact ⟨rfl, rfl, Below.refl _ _, rfl⟩
      | some ad =>
        refine ⟨?_⟩
        simp only [Rel.canD, List.take_succ_cons, List.take_zero, Nat.reduceAdd]
        go_wp2_with fail
        exact ⟨rfl, rfl, Below.refl _ _, rfl⟩
    · intro u w9 hb9 hd9
      have e4 : u 4 = .bool true := hd9 4 (by kernel_rfl)
      have e7 : u 7 = .slice aa k ca := hd9 7 (by kernel_rfl)
      clear hd9
      refine ⟨?_⟩
      simp only [Rel.canD, List.take_succ_cons, List.take_zero, Nat.reduceAdd]
      go_wp2_with fail
      exact ⟨rfl, rfl, (Below.refl _ _).alloc (Nat.le_refl _) _, w9.heap.size, rfl, fun j hj => by
        match j, hj with
        | 0, _ => rw [World.cell?_alloc_at _ _ _ _ rfl]; rfl⟩
    · intro u w9 hb9 hd9
      have e4 : u 4 = .bool true := hd9 4 (by kernel_rfl)
      have h8 : (Rel.Spec.box [.slice aa k ca]).p (u 8) w9 := hd9 8 (by kernel_rfl)
      obtain ⟨g8, x8, c8⟩ := h8
      have e8 : u 8 = .slice (some ⟨g8, 0, none⟩) 1 1 := x8
      clear x8
      clear hd9
      refine ⟨?_⟩
      simp only [Rel.canD, List.take_succ_cons, List.take_zero, Nat.reduceAdd]
      go_wp2_with fail
      refine (C1.out w9 g8 hb9 (c8 0 Nat.zero_lt_one)).mono ?_
      rintro e w8 ⟨rfl, rfl⟩
      go_wp2_with fail
      exact ⟨rfl, rfl, Below.refl _ _, rfl⟩
    · intro u w9 hb9 hd9
      have e4 : u 4 = .bool true := hd9 4 (by kernel_rfl)
      clear hd9
      refine ⟨?_⟩
      simp only [Rel.canD, List.take_succ_cons, List.take_zero, Nat.reduceAdd]
      go_wp2_with fail
      exact ⟨rfl, rfl, Below.refl _ _, rfl⟩
    · intro u w9 hb9 hd9
      have e4 : u 4 = .bool true := hd9 4 (by kernel_rfl)
      clear hd9
      refine ⟨?_⟩
      simp only [Rel.canD, List.take_succ_cons, List.take_zero, Nat.reduceAdd]
      go_wp2_with fail
      exact ⟨rfl, rfl, Below.refl _ _, rfl⟩
    · intro u w9 hb9 hd9
      have e4 : u 4 = .bool true := hd9 4 (by kernel_rfl)
      have e10 : u 10 = .slice aa N ca := hd9 10 (by kernel_rfl)
      have e11 : u 11 = .int .i64 (k : Int) := hd9 11 (by kernel_rfl)
      clear hd9
      cases aa with
      | none =>
        have n1 := (HNONE.out rfl).1
        have n2 := (HNONE.out rfl).2.1
        have n3 := (HNONE.out rfl).2.2
        subst n1 n2 n3
        refine ⟨?_⟩
        simp only [Rel.canD, List.take_succ_cons, List.take_zero, Nat.reduceAdd]
        go_wp2_with fail
        exact ⟨rfl, rfl, Below.refl _ _, HV2.out.symm⟩
      | some ad =>
        by_cases hck : ca = k
        · subst hck
          obtain rfl : N = ca := by omega
          have hE : Hid (Value.slice (some ad) 0 0 = .slice a2 m2 c2) := Lib.hid (by rw [HV2.out, if_pos rfl, Nat.sub_self])
          refine ⟨?_⟩
          simp only [Rel.canD, List.take_succ_cons, List.take_zero, Nat.reduceAdd]
          go_wp2_with fail
          exact ⟨rfl, rfl, Below.refl _ _, hE.out⟩
        · have hE : Hid (Value.slice (some (ad.add k)) (N - k) (ca - k) = .slice a2 m2 c2) := Lib.hid (by rw [HV2.out, if_neg hck]; rfl)
          refine ⟨?_⟩
          simp only [Rel.canD, List.take_succ_cons, List.take_zero, Nat.reduceAdd]
          go_wp2_with fail
          exact ⟨rfl, rfl, Below.refl _ _, hE.out⟩
    · intro u w9 hb9 hd9
      have e4 : u 4 = .bool true := hd9 4 (by kernel_rfl)
      have e12 : u 12 = .slice a2 m2 c2 := hd9 12 (by kernel_rfl)
      clear hd9
      refine ⟨?_⟩
      simp only [Rel.canD, List.take_succ_cons, List.take_zero, Nat.reduceAdd]
      go_wp2_with fail
      exact ⟨rfl, rfl, (Below.refl _ _).alloc (Nat.le_refl _) _, w9.heap.size, rfl, fun j hj => by
        match j, hj with
        | 0, _ => rw [World.cell?_alloc_at _ _ _ _ rfl]; rfl⟩
    · intro u w9 hb9 hd9
      have e4 : u 4 = .bool true := hd9 4 (by kernel_rfl)
      have e9 : u 9 = .int .u32 (s : Int) := hd9 9 (by kernel_rfl)
      have h13 : (Rel.Spec.box [.slice a2 m2 c2]).p (u 13) w9 := hd9 13 (by kernel_rfl)
      obtain ⟨g13, x13, c13⟩ := h13
      have e13 : u 13 = .slice (some ⟨g13, 0, none⟩) 1 1 := x13
      clear x13
      clear hd9
      refine ⟨?_⟩
      simp only [Rel.canD, List.take_succ_cons, List.take_zero, Nat.reduceAdd]
      go_wp2_with fail
      refine (C2.out w9 g13 hb9 (c13 0 Nat.zero_lt_one)).mono ?_
      rintro e w8 ⟨rfl, rfl⟩
      go_wp2_with fail
      exact ⟨rfl, rfl, Below.refl _ _, rfl⟩
    · intro u w9 hb9 hd9
      have e4 : u 4 = .bool true := hd9 4 (by kernel_rfl)
      clear hd9
      refine ⟨?_⟩
      simp only [Rel.canD, List.take_succ_cons, List.take_zero, Nat.reduceAdd]
      go_wp2_with fail
      exact ⟨rfl, rfl, Below.refl _ _, rfl⟩
    · intro u w9 hb9 hd9
      have e4 : u 4 = .bool true := hd9 4 (by kernel_rfl)
      have e14 : u 14 = .int .u32 (z : Int) := hd9 14 (by kernel_rfl)
      have e15 : u 15 = .int .u32 (z : Int) := hd9 15 (by kernel_rfl)
      clear hd9
      refine ⟨?_⟩
      simp only [Rel.canD, List.take_succ_cons, List.take_zero, Nat.reduceAdd]
      go_wp2_with fail
      exact ⟨rfl, rfl, Below.refl _ _, rfl⟩
    · intro u w9 hb9 hd9
      have e4 : u 4 = .bool true := hd9 4 (by kernel_rfl)
      have e16 : u 16 = .bool true := hd9 16 (by kernel_rfl)
      clear hd9
      refine ⟨?_⟩
      simp only [Rel.canD, List.take_succ_cons, List.take_zero, Nat.reduceAdd]
      go_wp2_with fail
      exact ⟨rfl, rfl, Below.refl _ _, rfl⟩
    · intro u w9 hb9 hd9
      have e17 : u 17 = .bool true := hd9 17 (by kernel_rfl)
      clear hd9
      refine ⟨?_⟩
      simp only [Rel.canD, List.take_succ_cons, List.take_zero, Nat.reduceAdd]
      go_wp2_with fail
      exact ⟨rfl, rfl, Below.refl _ _, rfl⟩
    · intro u w9 hb9 hd9
      have e18 : u 18 = .bool true := hd9 18 (by kernel_rfl)
      clear hd9
      refine ⟨?_⟩
      simp only [Rel.canD, List.take_succ_cons, List.take_zero, Nat.reduceAdd]
      go_wp2_with fail
      exact ⟨rfl, rfl, Below.refl _ _, rfl⟩
    · intro u w9 hb9 hd9
      have e18 : u 18 = .bool true := hd9 18 (by kernel_rfl)
      clear hd9
      refine ⟨?_⟩
      simp only [Rel.canD, List.take_succ_cons, List.take_zero, Nat.reduceAdd]
      go_wp2_with fail
      exact ⟨rfl, rfl, Below.refl _ _, rfl⟩
    · intro u w9 hb9 hd9
      have e18 : u 18 = .bool true := hd9 18 (by kernel_rfl)
      have e19 : u 19 = .slice aa N ca := hd9 19 (by kernel_rfl)
      have e20 : u 20 = .int .i64 (k : Int) := hd9 20 (by kernel_rfl)
      clear hd9
      cases aa with
      | none =>
        have n1 := (HNONE.out rfl).1
        have n2 := (HNONE.out rfl).2.1
        have n3 := (HNONE.out rfl).2.2
        subst n1 n2 n3
        refine ⟨?_⟩
        simp only [Rel.canD, List.take_succ_cons, List.take_zero, Nat.reduceAdd]
        go_wp2_with fail
        exact ⟨rfl, rfl, Below.refl _ _, rfl⟩
      | some ad =>
        refine ⟨?_⟩
        simp only [Rel.canD, List.take_succ_cons, List.take_zero, Nat.reduceAdd]
        go_wp2_with fail
        exact ⟨rfl, rfl, Below.refl _ _, rfl⟩
    · intro u w9 hb9 hd9
      have e18 : u 18 = .bool true := hd9 18 (by kernel_rfl)
      clear hd9
      refine ⟨?_⟩
      simp only [Rel.canD, List.take_succ_cons, List.take_zero, Nat.reduceAdd]
      go_wp2_with fail
      exact ⟨rfl, rfl, Below.refl _ _, rfl⟩
    · intro u w9 hb9 hd9
      have e18 : u 18 = .bool true := hd9 18 (by kernel_rfl)
      clear hd9
      refine ⟨?_⟩
      simp only [Rel.canD, List.take_succ_cons, List.take_zero, Nat.reduceAdd]
      go_wp2_with fail
      exact ⟨rfl, rfl, Below.refl _ _, rfl⟩
    · intro u w9 hb9 hd9
      have e18 : u 18 = .bool true := hd9 18 (by kernel_rfl)
      have e22 : u 22 = .slice aa N ca := hd9 22 (by kernel_rfl)
      have e23 : u 23 = .int .i64 (k : Int) := hd9 23 (by kernel_rfl)
      clear hd9
      cases aa with
      | none =>
        have n1 := (HNONE.out rfl).1
        have n2 := (HNONE.out rfl).2.1
        have n3 := (HNONE.out rfl).2.2
        subst n1 n2 n3
        refine ⟨?_⟩
        simp only [Rel.canD, List.take_succ_cons, List.take_zero, Nat.reduceAdd]
        go_wp2_with fail
        exact ⟨rfl, rfl, Below.refl _ _, HV2.out.symm⟩
      | some ad =>
        by_cases hck : ca = k
        · subst hck
          obtain rfl : N = ca := by omega
          have hE : Hid (Value.slice (some ad) 0 0 = .slice a2 m2 c2) := Lib.hid (by rw [HV2.out, if_pos rfl, Nat.sub_self])
          refine ⟨?_⟩
          simp only [Rel.canD, List.take_succ_cons, List.take_zero, Nat.reduceAdd]
          go_wp2_with fail
          exact ⟨rfl, rfl, Below.refl _ _, hE.out⟩
        · have hE : Hid (Value.slice (some (ad.add k)) (N - k) (ca - k) = .slice a2 m2 c2) := Lib.hid (by rw [HV2.out, if_neg hck]; rfl)
          refine ⟨?_⟩
          simp only [Rel.canD, List.take_succ_cons, List.take_zero, Nat.reduceAdd]
          go_wp2_with fail
          exact ⟨rfl, rfl, Below.refl _ _, hE.out⟩
    · intro u w9 hb9 hd9
      have e18 : u 18 = .bool true := hd9 18 (by kernel_rfl)
      have e21 : u 21 = .slice aa k ca := hd9 21 (by kernel_rfl)
      have e24 : u 24 = .slice a2 m2 c2 := hd9 24 (by kernel_rfl)
      clear hd9
      refine ⟨?_⟩
      simp only [Rel.canD, List.take_succ_cons, List.take_zero, Nat.reduceAdd]
      go_wp2_with fail
      exact ⟨rfl, rfl, (Below.refl _ _).alloc (Nat.le_refl _) _, w9.heap.size, rfl, fun j hj => by
        match j, hj with
        | 0, _ => rw [World.cell?_alloc_at _ _ _ _ rfl]; rfl
        | 1, _ => rw [World.cell?_alloc_at _ _ _ _ rfl]; rfl
        | 2, _ => rw [World.cell?_alloc_at _ _ _ _ rfl]; rfl⟩
    · intro u w9 hb9 hd9
      have e18 : u 18 = .bool true := hd9 18 (by kernel_rfl)
      have h25 : (Rel.Spec.box [.slice aa k ca, .slice none 0 0, .slice a2 m2 c2]).p (u 25) w9 := hd9 25 (by kernel_rfl)
      obtain ⟨g25, x25, c25⟩ := h25
      have e25 : u 25 = .slice (some ⟨g25, 0, none⟩) 3 3 := x25
      clear x25
      clear hd9
      refine ⟨?_⟩
      simp only [Rel.canD, List.take_succ_cons, List.take_zero, Nat.reduceAdd]
      go_wp2_with fail
      refine (C3.out w9 g25 hb9 (c25 0 (by simp)) (c25 1 (by simp)) (c25 2 (by simp))).mono ?_
      rintro e w8 ⟨rfl, rfl⟩
      go_wp2_with fail
      exact ⟨rfl, rfl, Below.refl _ _, rfl⟩
    · intro u w9 hb9 hd9
      have e18 : u 18 = .bool true := hd9 18 (by kernel_rfl)
      clear hd9
      refine ⟨?_⟩
      simp only [Rel.canD, List.take_succ_cons, List.take_zero, Nat.reduceAdd]
      go_wp2_with fail
      exact ⟨rfl, rfl, Below.refl _ _, rfl⟩
    · intro u w9 hb9 hd9
      have e18 : u 18 = .bool true := hd9 18 (by kernel_rfl)
      have e26 : u 26 = .int .u32 (z : Int) := hd9 26 (by kernel_rfl)
      have e27 : u 27 = .int .u32 (z : Int) := hd9 27 (by kernel_rfl)
      clear hd9
      refine ⟨?_⟩
      simp only [Rel.canD, List.take_succ_cons, List.take_zero, Nat.reduceAdd]
      go_wp2_with fail
      exact ⟨rfl, rfl, Below.refl _ _, rfl⟩
    · intro u w9 hb9 hd9
      have e18 : u 18 = .bool true := hd9 18 (by kernel_rfl)
      have e28 : u 28 = .bool true := hd9 28 (by kernel_rfl)
      clear hd9
      refine ⟨?_⟩
      simp only [Rel.canD, List.take_succ_cons, List.take_zero, Nat.reduceAdd]
      go_wp2_with fail
      exact ⟨rfl, rfl, Below.refl _ _, rfl⟩
    · intro u w9 hb9 hd9
      have e29 : u 29 = .bool true := hd9 29 (by kernel_rfl)
      clear hd9
      refine ⟨?_⟩
      simp only [Rel.canD, List.take_succ_cons, List.take_zero, Nat.reduceAdd]
      go_wp2_with fail
      exact ⟨rfl, rfl, Below.refl _ _, rfl⟩
    intro u w9 hb9 hR9
    have h30 : u 30 = .bool true := hR9 30 (by decide)
    simp only [Rel.canD, Nat.reduceAdd, h30]
    clear hR9
    have hbE := bt5 HB2.out hb9
    go_simp
    go_wp2_with fail
    go_ret
    exact ⟨rfl, hbE⟩
end Go.Proofs.YtkmefpeplpllhaaDoor
