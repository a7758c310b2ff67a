/- The program's map in memory: all. -/
import Derived.Test.YtgfgafondiipoaaSvK
namespace Go.Proofs.Ytgfgafondiipoaa
open Go.RowKit Go.Shelf

/-- Not all sectors of an extent are so. -/
def bad (so : Sp.Cell → Bool) (m : Sp.M) (e : Sp.Ext) : Bool := ((m.drop e.1.toNat).take e.2.toNat).any (fun c => !so c)
theorem bad_iff {so : Sp.Cell → Bool} {m : Sp.M} {e : Sp.Ext} (h : Sp.RightE m.length e) : bad so m e = false ↔ ∀ (i : Nat) (hi : i < m.length), Sp.In e i → so m[i] = true := by
  obtain ⟨p, z⟩ := e
  obtain ⟨h1, h2, h3, h4⟩ := h
  simp only at h1 h2 h3 h4
  unfold bad Sp.In
  simp only
  rw [List.any_eq_false]
  constructor
  · intro hb i hi hin
    have hj : i - p.toNat < ((m.drop p.toNat).take z.toNat).length := by rw [List.length_take, List.length_drop]; omega
    have := hb _ (List.getElem_mem hj)
    rw [List.getElem_take, List.getElem_drop] at this
    have e : p.toNat + (i - p.toNat) = i := by omega
    simp only [e] at this
    simpa using this
  · intro hi c hc
    obtain ⟨j, hj, rfl⟩ := List.mem_iff_getElem.1 hc
    have hj2 := hj
    rw [List.length_take, List.length_drop] at hj2
    rw [List.getElem_take, List.getElem_drop]
    have := hi (p.toNat + j) (by omega) (by omega)
    rw [this]; decide
theorem has_none (c : Nat) (a : Option Addr) (fv : Value) (w : World) : Calls Try.prog 47 #[.slice a 0 c, fv] w fun e w' => e = .returned (.bool false) ∧ w' = w := by
  have c1 : Calls Try.prog 57 #[.slice a 0 c, fv] w fun e w' => e = .returned (.int .i64 (-1)) ∧ w' = w := by
    go_enter Try.func57, Try.ntmps57
    go_wp2_with fail
    go_loopw [8] (fun vi wr => vi = .int .i64 0 ∧ wr = w) (fun _ _ => 0)
    case atStart => exact ⟨rfl, rfl⟩
    case round =>
      obtain ⟨rfl, rfl⟩ := hrel
      go_wp2_with fail
      go_ret
      exact ⟨rfl, rfl⟩
  go_enter Try.func47, Try.ntmps47
  go_wp2_with fail
  refine c1.mono ?_
  rintro e w1 ⟨rfl, rfl⟩
  go_wp2_with fail
  go_ret
  exact ⟨rfl, rfl⟩
/-- An extent that is right. -/
abbrev RExt (n : Nat) := {e : Sp.Ext // Sp.RightE n e}
set_option maxRecDepth 100000 in
theorem other_free (x y z : Bool) (g4 : Nat) (w : World) (h : w.heap[g4]? = some (.cells #[.func (.func 30) #[] #[]] 53 (0, 0))) :
    Calls Try.prog 45 #[.agg #[.bool x, .bool y, .bool z], .pointer (some ⟨g4, 0, none⟩)] w fun e w' => e = .returned (.bool !(!x)) ∧ Below w.heap.size w w' := by
  have c0 := (blk_cell h 0 _ rfl).1
  simp only [List.getElem_toArray, List.getElem_cons_zero] at c0
  have hl := lt_of_block h
  have hb : Below w.heap.size w (w.alloc (.cells #[.bool x, .bool y, .bool z] 62)) := (Below.refl _ w).alloc (Nat.le_refl _) _
  have HB := Lib.hid hb
  have c1 := (blk_cell ((hb.block g4 hl).trans h) 0 _ rfl).1
  simp only [List.getElem_toArray, List.getElem_cons_zero] at c1
  have hne : ¬ g4 = w.heap.size := by omega
  have cc := free_c x y z (w.alloc (.cells #[.bool x, .bool y, .bool z] 62))
  obtain ⟨r, hr⟩ : ∃ r, r = (!x) := ⟨_, rfl⟩
  rw [← hr] at cc ⊢
  clear h hb hr
  go_enter Try.func45, Try.ntmps45
  go_wp2_with fail
  refine cc.mono ?_
  rintro e w2 ⟨rfl, hb2⟩
  have HB2 := Lib.hid (bt5 HB.out hb2)
  clear cc hb2
  go_wp2_with fail
  go_ret
  exact ⟨rfl, HB2.out⟩
set_option maxHeartbeats 3200000 in
set_option maxRecDepth 100000 in
theorem in_free (w : World) (q b g3 g4 g7 : Nat) (m : Sp.M) (e : Sp.Ext) (h : PD w q b m) (h3 : w.heap[g3]? = some (.cells #[.pointer (some ⟨q, 0, none⟩)] 24 (0, 0))) (h4 : w.heap[g4]? = some (.cells #[.func (.func 30) #[] #[]] 53 (0, 0))) (h7 : w.heap[g7]? = some (.cells #[.func (.func 45) #[] #[.pointer (some ⟨g4, 0, none⟩)]] 53 (0, 0))) (hR : Sp.RightE m.length e) :
    Calls Try.prog 48 #[.agg #[.int .i64 e.1, .int .i64 e.2], .pointer (some ⟨g3, 0, none⟩), .pointer (some ⟨g7, 0, none⟩)] w fun e' w' => e' = .returned (.bool (bad (fun c => !decide (c.1 ≠ 0)) m e)) ∧ Below w.heap.size w w' := by
  obtain ⟨p, z⟩ := e
  obtain ⟨a, N, rfl, rfl, haN, hN1⟩ := right_nat hR
  simp only
  have hbx : Below w.heap.size w (w.alloc (.cells #[.int .i64 (a : Int), .int .i64 (N : Int)] 35)) := (Below.refl _ w).alloc (Nat.le_refl _) _
  have hnx := heap_alloc_new w (.cells #[.int .i64 (a : Int), .int .i64 (N : Int)] 35)
  have HBX := Lib.hid hbx
  have hP := h.later hbx
  have k3 := (hbx.block g3 (lt_of_block h3)).trans h3
  have k4 := (hbx.block g4 (lt_of_block h4)).trans h4
  have k7 := (hbx.block g7 (lt_of_block h7)).trans h7
  clear h h3 h4 h7 hbx hR
  obtain ⟨B, hB⟩ : ∃ B, B = bad (fun c => !decide (c.1 ≠ 0)) m ((a : Int), (N : Int)) := ⟨_, rfl⟩
  rw [← hB]
  obtain ⟨gx, hgx⟩ : ∃ g, g = w.heap.size := ⟨_, rfl⟩
  go_enter Try.func48, Try.ntmps48
  go_upto_region 1 with fail
  rw [← hgx] at hnx ⊢
  clear hgx
  generalize w.alloc _ = w1 at HBX hP k3 k4 k7 hnx ⊢
  have HOF := Lib.hid (fun W (hb : Below w1.heap.size w1 W) => of_w W q b m a N (hP.later hb) haN hN1)
  unfold ext at HOF
  have eg : ∀ args w, (callFunc 45 args).run Try.prog w = .ok (.enter 45 args) w := enters_of Try.func45 (by kernel_rfl) rfl
  have hlen := hP.len
  have HCF : Hid (∀ W, Below w1.heap.size w1 W → Calls Try.prog 49 #[.slice (some ⟨b, a * 3, none⟩) N (m.length - a), .func (.func 45) #[] #[.pointer (some ⟨g4, 0, none⟩)]] W fun e W' => e = .returned (.bool (bad (fun c => !decide (c.1 ≠ 0)) m ((a : Int), (N : Int)))) ∧ Below W.heap.size W W') := Lib.hid (fun W hb => by
    have hPW := hP.later hb
    have k4W := (hb.block g4 (lt_of_block k4)).trans k4
    have hz : ((m.drop a).take N).length = N := by rw [List.length_take, List.length_drop]; omega
    have hcon := AnyQ.slices_ContainsFunc Try.hasSec 3 Try.isAgg62 Try.sizeOf62 sc (fun _ => rfl) (fun c => !(fun c => !decide (c.1 ≠ 0)) c) 45 #[.pointer (some ⟨g4, 0, none⟩)] eg b (a * 3) N (m.length - a) ((m.drop a).take N) W
      (fun W2 c hb2 => (other_free (decide (c.1 ≠ 0)) (decide (c.1 = 2)) c.2 g4 W2 ((hb2.block g4 (lt_of_block k4W)).trans k4W)).mono fun e w' he => ⟨by rw [he.1], bt5 hb2 he.2⟩) (by omega) (by omega) (lt_of_block hPW.st) (fun j hj i v hi => by
        rw [hz] at hj
        have h1 := hPW.s (a + j) (by omega)
        have h2 : ((m.drop a).take N)[j]! = m[a + j] := by
          rw [getElem!_pos _ _ (by rw [hz]; exact hj), List.getElem_take, List.getElem_drop]
        rw [h2] at hi
        rw [show (a + j) * 3 = a * 3 + j * 3 from by omega] at h1
        match i, hi with
        | 0, hi => simp [sc] at hi; rw [← hi]; simpa using h1.1
        | 1, hi => simp [sc] at hi; rw [← hi]; exact h1.2.1
        | 2, hi => simp [sc] at hi; rw [← hi]; exact h1.2.2
        | i + 3, hi => simp [sc] at hi)
    change Calls Try.prog 49 _ _ _ at hcon
    rw [List.take_of_length_le (by omega)] at hcon
    exact hcon)
  obtain ⟨n, hn⟩ : ∃ n, n = m.length := ⟨_, rfl⟩
  rw [← hB] at HCF
  rw [← hn] at HCF HOF
  have HW := Lib.hid (And.intro k3 (And.intro k7 (And.intro hnx trivial)))
  clear hB hn k3 k4 k7 hnx hP eg hlen haN
  refine Rel.region_of (by kernel_rfl) [some 5, some 6, some 7, some 8, some 9, some 4] (by kernel_rfl) (by kernel_rfl) [.eq (.pointer (some ⟨q, 0, none⟩)), .eq (.agg #[.int .i64 (a : Int), .int .i64 (N : Int)]), .eq (.slice (some ⟨b, a * 3, none⟩) N (n - a)), .eq (.func (.func 45) #[] #[.pointer (some ⟨g4, 0, none⟩)]), .eq (.bool B), .eq (.bool B)] ⟨?_, ?_, ?_, ?_, ?_, ?_, trivial⟩ ?_
  · intro u w9 hb9 hd9
    clear hd9
    have q9 := (hb9.block g3 (lt_of_block HW.out.1)).trans HW.out.1
    have c9 := (blk_cell q9 0 _ rfl).1
    clear q9
    refine ⟨?_⟩
    simp only [Rel.canD, List.take_zero]
    go_wp2_with fail
    exact ⟨rfl, rfl, Below.refl _ _, rfl⟩
  · intro u w9 hb9 hd9
    clear hd9
    have q9 := (hb9.block gx (lt_of_block HW.out.2.2.1)).trans HW.out.2.2.1
    have c9 := (blk_cell q9 0 _ rfl).1
    have c8 := (blk_cell q9 1 _ rfl).1
    clear q9
    refine ⟨?_⟩
    simp only [Rel.canD, List.take_succ_cons, List.take_zero, Nat.reduceAdd]
    go_wp2_with fail
    exact ⟨rfl, rfl, Below.refl _ _, rfl⟩
  · intro u w9 hb9 hd9
    have e0 : u 0 = .pointer (some ⟨q, 0, none⟩) := hd9 0 (by kernel_rfl)
    have e1 : u 1 = .agg #[.int .i64 (a : Int), .int .i64 (N : Int)] := hd9 1 (by kernel_rfl)
    clear hd9
    have c9 := HOF.out w9 hb9
    refine ⟨?_⟩
    simp only [Rel.canD, List.take_succ_cons, List.take_zero, Nat.reduceAdd]
    go_wp2_with fail
    refine c9.mono ?_
    rintro e w8 ⟨rfl, hb8⟩
    clear c9
    go_wp2_with fail
    exact ⟨rfl, rfl, hb8, rfl⟩
  · intro u w9 hb9 hd9
    clear hd9
    have q9 := (hb9.block g7 (lt_of_block HW.out.2.1)).trans HW.out.2.1
    have c9 := (blk_cell q9 0 _ rfl).1
    clear q9
    refine ⟨?_⟩
    simp only [Rel.canD, List.take_succ_cons, List.take_zero, Nat.reduceAdd]
    go_wp2_with fail
    exact ⟨rfl, rfl, Below.refl _ _, rfl⟩
  · intro u w9 hb9 hd9
    have e2 : u 2 = .slice (some ⟨b, a * 3, none⟩) N (n - a) := hd9 2 (by kernel_rfl)
    have e3 : u 3 = .func (.func 45) #[] #[.pointer (some ⟨g4, 0, none⟩)] := hd9 3 (by kernel_rfl)
    clear hd9
    have c9 := HCF.out w9 hb9
    refine ⟨?_⟩
    simp only [Rel.canD, List.take_succ_cons, List.take_zero, Nat.reduceAdd]
    go_wp2_with fail
    refine c9.mono ?_
    rintro e w8 ⟨rfl, hb8⟩
    clear c9
    go_wp2_with fail
    exact ⟨rfl, rfl, hb8, rfl⟩
  · intro u w9 hb9 hd9
    have e4 : u 4 = .bool B := hd9 4 (by kernel_rfl)
    clear hd9
    refine ⟨?_⟩
    simp only [Rel.canD, List.take_succ_cons, List.take_zero, Nat.reduceAdd]
    go_wp2_with fail
    exact ⟨rfl, rfl, Below.refl _ _, rfl⟩
  intro u w9 hb9 hR9
  have h5 : u 5 = .bool B := hR9 5 (by decide)
  simp only [Rel.canD, Nat.reduceAdd, h5]
  have HB9 := Lib.hid hb9
  clear hR9 hb9 h5
  go_simp
  go_wp2_with fail
  go_ret
  exact ⟨rfl, HBX.out.trans (HB9.out.mono HBX.out.size)⟩

set_option maxHeartbeats 3200000 in
set_option maxRecDepth 100000 in
open Classical in
theorem all_free (w : World) (q b : Nat) (m : Sp.M) (v : Value) (es : List Sp.Ext) (h : PD w q b m) (hv : EsOut (PF q b) w v es) (hi64 : ∀ e ∈ es, I64 e.1 ∧ I64 e.2) (hel : es.length ≤ 1000) :
    Calls Try.prog 35 #[.pointer (some ⟨q, 0, none⟩), .func (.func 30) #[] #[], v] w fun e w' => e = .returned (.bool (decide (Sp.CanHold m es))) ∧ Below w.heap.size w w' := by
  have hbA : Below w.heap.size w (((w.alloc (.cells #[.pointer (some ⟨q, 0, none⟩)] 24)).alloc (.cells #[.func (.func 30) #[] #[]] 53)).alloc (.cells #[.func (.func 45) #[] #[.pointer (some ⟨w.heap.size + 1, 0, none⟩)]] 53)) := (((Below.refl _ w).alloc (Nat.le_refl _) _).alloc (by simp) _).alloc (by simp; omega) _
  obtain ⟨k3, k4, k7⟩ := three_at w (.cells #[.pointer (some ⟨q, 0, none⟩)] 24) (.cells #[.func (.func 30) #[] #[]] 53) (.cells #[.func (.func 45) #[] #[.pointer (some ⟨w.heap.size + 1, 0, none⟩)]] 53)
  have hst : (store ⟨w.heap.size + 1 + 1, 0, none⟩ (.func (.func 45) #[] #[.pointer (some ⟨w.heap.size + 1, 0, none⟩)])).run Try.prog (((w.alloc (.cells #[.pointer (some ⟨q, 0, none⟩)] 24)).alloc (.cells #[.func (.func 30) #[] #[]] 53)).alloc (.cells #[.nilFunc] 53)) = .ok () ((((w.alloc (.cells #[.pointer (some ⟨q, 0, none⟩)] 24)).alloc (.cells #[.func (.func 30) #[] #[]] 53)).alloc (.cells #[.nilFunc] 53)).setCell ⟨w.heap.size + 1 + 1, 0, none⟩ (.func (.func 45) #[] #[.pointer (some ⟨w.heap.size + 1, 0, none⟩)])) := by
    have k := blk_cell (three_at w (.cells #[.pointer (some ⟨q, 0, none⟩)] 24) (.cells #[.func (.func 30) #[] #[]] 53) (.cells #[.nilFunc] 53)).2.2 0 _ rfl
    rw [run_store _ _ _ _ _ (by rfl), k.1]; simp [k.2]
  obtain ⟨ao, cap, rfl, hc1, hc2, hg⟩ := id hv
  have HPW := Lib.hid h
  have HV := Lib.hid (hv.later hbA)
  have hP := h.later hbA
  have HBA := Lib.hid hbA
  have HI := Lib.hid hi64
  have HL := Lib.hid hel
  obtain ⟨Z, hZ⟩ : ∃ Z, Z = decide (Sp.CanHold m es) := ⟨_, rfl⟩
  have HZ := Lib.hid hZ
  rw [← hZ]
  clear h hv hi64 hel hg hbA hZ
  go_enter Try.func35, Try.ntmps35
  go_upto_region 2 with fail
  clear hst
  obtain ⟨g7, e7⟩ : ∃ g, g = w.heap.size + 1 + 1 := ⟨_, rfl⟩
  rw [← e7] at k7 ⊢
  obtain ⟨g4, e4⟩ : ∃ g, g = w.heap.size + 1 := ⟨_, rfl⟩
  rw [← e4] at k3 k4 k7 HV hP HBA ⊢
  obtain ⟨g3, e3⟩ : ∃ g, g = w.heap.size := ⟨_, rfl⟩
  rw [← e3] at k3 ⊢
  clear e7 e4 e3
  generalize World.alloc _ _ = w1 at k3 k4 k7 HV hP HBA ⊢
  have cA := apart_w w1 q b m _ es hP HV.out HI.out HL.out
  have y3 := (blk_cell k3 0 _ rfl).1
  simp only [List.getElem_toArray, List.getElem_cons_zero] at y3
  obtain ⟨L, hL⟩ : ∃ L, L = es.length := ⟨_, rfl⟩
  have HLL := Lib.hid hL
  rw [← hL] at cA hc1 HV ⊢
  by_cases hap : Sp.Apart m.length es
  · rw [decide_eq_true hap] at cA
    have HAP := Lib.hid hap
    have HW := Lib.hid (And.intro k3 (And.intro k4 (And.intro k7 hP)))
    have HC : Hid (∀ W, Below w1.heap.size w1 W → Calls Try.prog 47 #[.slice ao L cap, .func (.func 48) #[] #[.pointer (some ⟨g3, 0, none⟩), .pointer (some ⟨g7, 0, none⟩)]] W fun e W' => e = .returned (.bool (es.any (bad (fun c => !decide (c.1 ≠ 0)) m))) ∧ Below W.heap.size W W') := Lib.hid (fun W hb => by
      by_cases h0 : es = []
      · subst h0
        have : L = 0 := hL
        subst this
        refine (has_none cap ao _ W).mono ?_
        rintro e W' ⟨rfl, rfl⟩
        exact ⟨rfl, Below.refl _ _⟩
      · obtain ⟨ao2, cap2, hvv, _, _, hg⟩ := HV.out.later hb
        injection hvv with ea el ec
        subst ea ec
        obtain ⟨b1, o1, hx1, hl1, hnF, hcc⟩ := hg.resolve_left h0
        subst hx1
        have hne : 0 < es.length := List.length_pos_iff.2 h0
        haveI : Inhabited (RExt m.length) := ⟨⟨es[0], hap.1 _ (List.getElem_mem hne)⟩⟩
        have eg : ∀ args w, (callFunc 48 args).run Try.prog w = .ok (.enter 48 args) w := enters_of Try.func48 (by kernel_rfl) rfl
        have hzl : (es.attachWith (Sp.RightE m.length) hap.1).length = es.length := by simp
        have hcon := AnyQ.slices_ContainsFunc Try.hasExt 2 Try.isAgg35 Try.sizeOf35 (fun x : RExt m.length => ecells x.1) (fun _ => rfl) (fun x : RExt m.length => bad (fun c => !decide (c.1 ≠ 0)) m x.1) 48 #[.pointer (some ⟨g3, 0, none⟩), .pointer (some ⟨g7, 0, none⟩)] eg b1 o1 L cap (es.attachWith (Sp.RightE m.length) hap.1) W
          (fun W2 x hb2 => (in_free W2 q b g3 g4 g7 m x.1 ((hP.later hb).later hb2) ((hb2.block g3 (Nat.lt_of_lt_of_le (lt_of_block k3) hb.size)).trans ((hb.block g3 (lt_of_block k3)).trans k3)) ((hb2.block g4 (Nat.lt_of_lt_of_le (lt_of_block k4) hb.size)).trans ((hb.block g4 (lt_of_block k4)).trans k4)) ((hb2.block g7 (Nat.lt_of_lt_of_le (lt_of_block k7) hb.size)).trans ((hb.block g7 (lt_of_block k7)).trans k7)) x.2).mono fun e w' he => ⟨he.1, bt5 hb2 he.2⟩) (by rw [hzl, hL]; exact Nat.le_refl _) (by have := HL.out; omega) hl1 (fun j hj i v hi => by
            have hj2 : j < es.length := by rw [hzl] at hj; exact hj
            have h2 : ((es.attachWith (Sp.RightE m.length) hap.1)[j]!).1 = es[j] := by
              rw [getElem!_pos (es.attachWith (Sp.RightE m.length) hap.1) j hj]; simp
            rw [h2] at hi
            have h1 := hcc j hj2
            match i, hi with
            | 0, hi => simp [ecells] at hi; rw [← hi]; simpa using h1.1
            | 1, hi => simp [ecells] at hi; rw [← hi]; exact h1.2
            | i + 2, hi => simp [ecells] at hi)
        change Calls Try.prog 47 _ _ _ at hcon
        rw [List.take_of_length_le (by rw [hzl, hL]; exact Nat.le_refl _)] at hcon
        have hany : (es.attachWith (Sp.RightE m.length) hap.1).any (fun x : RExt m.length => bad (fun c => !decide (c.1 ≠ 0)) m x.1) = es.any (bad (fun c => !decide (c.1 ≠ 0)) m) := by
          have : es = (es.attachWith (Sp.RightE m.length) hap.1).map (·.1) := List.ext_getElem (by simp) (fun i h1 h2 => by simp)
          conv => rhs; rw [this]
          rw [List.any_map]; rfl
        rw [hany] at hcon
        exact hcon)
    have HR : Hid (decide (Sp.CanHold m es) = !(es.any (bad (fun c => !decide (c.1 ≠ 0)) m))) := Lib.hid (by
      have hiff : es.any (bad (fun c => !decide (c.1 ≠ 0)) m) = false ↔ Sp.CanHold m es := by
        rw [List.any_eq_false]
        unfold Sp.CanHold
        constructor
        · intro hx
          refine ⟨hap, fun e he i hi hin => ?_⟩
          have := (bad_iff (hap.1 e he)).1 (by simpa using hx e he) i hi hin
          simpa using this
        · rintro ⟨_, hx⟩ e he
          have : bad (fun c => !decide (c.1 ≠ 0)) m e = false := (bad_iff (hap.1 e he)).2 (fun i hi hin => by
            have := hx e he i hi hin
            simpa using this)
          rw [this]; decide
      by_cases hc : Sp.CanHold m es
      · rw [decide_eq_true hc, hiff.2 hc]; rfl
      · rw [decide_eq_false hc]
        cases hb : es.any (bad (fun c => !decide (c.1 ≠ 0)) m) with
        | true => rfl
        | false => exact absurd (hiff.1 hb) hc)
    obtain ⟨r, hr⟩ : ∃ r, r = es.any (bad (fun c => !decide (c.1 ≠ 0)) m) := ⟨_, rfl⟩
    rw [← hr] at HC HR
    clear hr hap hP k3 k4 k7 hL HV
    go_wp2_with fail
    refine cA.mono ?_
    rintro e w2 ⟨rfl, hb2⟩
    have cC := HC.out w2 hb2
    have HB2 := Lib.hid hb2
    clear cA hb2 y3
    go_wp2_with fail
    refine cC.mono ?_
    rintro e w3 ⟨rfl, hb3⟩
    have HB3 := Lib.hid (bt5 HB2.out hb3)
    clear cC hb3
    go_wp2_with fail
    go_ret
    exact ⟨by rw [HZ.out, HR.out]; rfl, HBA.out.trans (HB3.out.mono HBA.out.size)⟩
  · rw [decide_eq_false hap] at cA
    have HN : Hid (decide (Sp.CanHold m es) = false) := Lib.hid (decide_eq_false (fun hc => hap hc.1))
    clear hap hP k3 k4 k7 hL HV
    go_wp2_with fail
    refine cA.mono ?_
    rintro e w2 ⟨rfl, hb2⟩
    have HB2 := Lib.hid hb2
    clear cA hb2 y3
    go_wp2_with fail
    go_ret
    exact ⟨by rw [HZ.out, HN.out]; rfl, HBA.out.trans (HB2.out.mono HBA.out.size)⟩
set_option maxRecDepth 100000 in
theorem other_taken (x y z : Bool) (g4 : Nat) (w : World) (h : w.heap[g4]? = some (.cells #[.func (.func 37) #[] #[]] 53 (0, 0))) :
    Calls Try.prog 45 #[.agg #[.bool x, .bool y, .bool z], .pointer (some ⟨g4, 0, none⟩)] w fun e w' => e = .returned (.bool !(x && !z)) ∧ Below w.heap.size w w' := by
  have c0 := (blk_cell h 0 _ rfl).1
  simp only [List.getElem_toArray, List.getElem_cons_zero] at c0
  have hl := lt_of_block h
  have hb : Below w.heap.size w (w.alloc (.cells #[.bool x, .bool y, .bool z] 62)) := (Below.refl _ w).alloc (Nat.le_refl _) _
  have HB := Lib.hid hb
  have c1 := (blk_cell ((hb.block g4 hl).trans h) 0 _ rfl).1
  simp only [List.getElem_toArray, List.getElem_cons_zero] at c1
  have hne : ¬ g4 = w.heap.size := by omega
  have cc := taken_c x y z (w.alloc (.cells #[.bool x, .bool y, .bool z] 62))
  obtain ⟨r, hr⟩ : ∃ r, r = (x && !z) := ⟨_, rfl⟩
  rw [← hr] at cc ⊢
  clear h hb hr
  go_enter Try.func45, Try.ntmps45
  go_wp2_with fail
  refine cc.mono ?_
  rintro e w2 ⟨rfl, hb2⟩
  have HB2 := Lib.hid (bt5 HB.out hb2)
  clear cc hb2
  go_wp2_with fail
  go_ret
  exact ⟨rfl, HB2.out⟩
set_option maxHeartbeats 3200000 in
set_option maxRecDepth 100000 in
theorem in_taken (w : World) (q b g3 g4 g7 : Nat) (m : Sp.M) (e : Sp.Ext) (h : PD w q b m) (h3 : w.heap[g3]? = some (.cells #[.pointer (some ⟨q, 0, none⟩)] 24 (0, 0))) (h4 : w.heap[g4]? = some (.cells #[.func (.func 37) #[] #[]] 53 (0, 0))) (h7 : w.heap[g7]? = some (.cells #[.func (.func 45) #[] #[.pointer (some ⟨g4, 0, none⟩)]] 53 (0, 0))) (hR : Sp.RightE m.length e) :
    Calls Try.prog 48 #[.agg #[.int .i64 e.1, .int .i64 e.2], .pointer (some ⟨g3, 0, none⟩), .pointer (some ⟨g7, 0, none⟩)] w fun e' w' => e' = .returned (.bool (bad (fun c => decide (c.1 ≠ 0) && !c.2) m e)) ∧ Below w.heap.size w w' := by
  obtain ⟨p, z⟩ := e
  obtain ⟨a, N, rfl, rfl, haN, hN1⟩ := right_nat hR
  simp only
  have hbx : Below w.heap.size w (w.alloc (.cells #[.int .i64 (a : Int), .int .i64 (N : Int)] 35)) := (Below.refl _ w).alloc (Nat.le_refl _) _
  have hnx := heap_alloc_new w (.cells #[.int .i64 (a : Int), .int .i64 (N : Int)] 35)
  have HBX := Lib.hid hbx
  have hP := h.later hbx
  have k3 := (hbx.block g3 (lt_of_block h3)).trans h3
  have k4 := (hbx.block g4 (lt_of_block h4)).trans h4
  have k7 := (hbx.block g7 (lt_of_block h7)).trans h7
  clear h h3 h4 h7 hbx hR
  obtain ⟨B, hB⟩ : ∃ B, B = bad (fun c => decide (c.1 ≠ 0) && !c.2) m ((a : Int), (N : Int)) := ⟨_, rfl⟩
  rw [← hB]
  obtain ⟨gx, hgx⟩ : ∃ g, g = w.heap.size := ⟨_, rfl⟩
  go_enter Try.func48, Try.ntmps48
  go_upto_region 1 with fail
  rw [← hgx] at hnx ⊢
  clear hgx
  generalize w.alloc _ = w1 at HBX hP k3 k4 k7 hnx ⊢
  have HOF := Lib.hid (fun W (hb : Below w1.heap.size w1 W) => of_w W q b m a N (hP.later hb) haN hN1)
  unfold ext at HOF
  have eg : ∀ args w, (callFunc 45 args).run Try.prog w = .ok (.enter 45 args) w := enters_of Try.func45 (by kernel_rfl) rfl
  have hlen := hP.len
  have HCF : Hid (∀ W, Below w1.heap.size w1 W → Calls Try.prog 49 #[.slice (some ⟨b, a * 3, none⟩) N (m.length - a), .func (.func 45) #[] #[.pointer (some ⟨g4, 0, none⟩)]] W fun e W' => e = .returned (.bool (bad (fun c => decide (c.1 ≠ 0) && !c.2) m ((a : Int), (N : Int)))) ∧ Below W.heap.size W W') := Lib.hid (fun W hb => by
    have hPW := hP.later hb
    have k4W := (hb.block g4 (lt_of_block k4)).trans k4
    have hz : ((m.drop a).take N).length = N := by rw [List.length_take, List.length_drop]; omega
    have hcon := AnyQ.slices_ContainsFunc Try.hasSec 3 Try.isAgg62 Try.sizeOf62 sc (fun _ => rfl) (fun c => !(fun c => decide (c.1 ≠ 0) && !c.2) c) 45 #[.pointer (some ⟨g4, 0, none⟩)] eg b (a * 3) N (m.length - a) ((m.drop a).take N) W
      (fun W2 c hb2 => (other_taken (decide (c.1 ≠ 0)) (decide (c.1 = 2)) c.2 g4 W2 ((hb2.block g4 (lt_of_block k4W)).trans k4W)).mono fun e w' he => ⟨by rw [he.1], bt5 hb2 he.2⟩) (by omega) (by omega) (lt_of_block hPW.st) (fun j hj i v hi => by
        rw [hz] at hj
        have h1 := hPW.s (a + j) (by omega)
        have h2 : ((m.drop a).take N)[j]! = m[a + j] := by
          rw [getElem!_pos _ _ (by rw [hz]; exact hj), List.getElem_take, List.getElem_drop]
        rw [h2] at hi
        rw [show (a + j) * 3 = a * 3 + j * 3 from by omega] at h1
        match i, hi with
        | 0, hi => simp [sc] at hi; rw [← hi]; simpa using h1.1
        | 1, hi => simp [sc] at hi; rw [← hi]; exact h1.2.1
        | 2, hi => simp [sc] at hi; rw [← hi]; exact h1.2.2
        | i + 3, hi => simp [sc] at hi)
    change Calls Try.prog 49 _ _ _ at hcon
    rw [List.take_of_length_le (by omega)] at hcon
    exact hcon)
  obtain ⟨n, hn⟩ : ∃ n, n = m.length := ⟨_, rfl⟩
  rw [← hB] at HCF
  rw [← hn] at HCF HOF
  have HW := Lib.hid (And.intro k3 (And.intro k7 (And.intro hnx trivial)))
  clear hB hn k3 k4 k7 hnx hP eg hlen haN
  refine Rel.region_of (by kernel_rfl) [some 5, some 6, some 7, some 8, some 9, some 4] (by kernel_rfl) (by kernel_rfl) [.eq (.pointer (some ⟨q, 0, none⟩)), .eq (.agg #[.int .i64 (a : Int), .int .i64 (N : Int)]), .eq (.slice (some ⟨b, a * 3, none⟩) N (n - a)), .eq (.func (.func 45) #[] #[.pointer (some ⟨g4, 0, none⟩)]), .eq (.bool B), .eq (.bool B)] ⟨?_, ?_, ?_, ?_, ?_, ?_, trivial⟩ ?_
  · intro u w9 hb9 hd9
    clear hd9
    have q9 := (hb9.block g3 (lt_of_block HW.out.1)).trans HW.out.1
    have c9 := (blk_cell q9 0 _ rfl).1
    clear q9
    refine ⟨?_⟩
    simp only [Rel.canD, List.take_zero]
    go_wp2_with fail
    exact ⟨rfl, rfl, Below.refl _ _, rfl⟩
  · intro u w9 hb9 hd9
    clear hd9
    have q9 := (hb9.block gx (lt_of_block HW.out.2.2.1)).trans HW.out.2.2.1
    have c9 := (blk_cell q9 0 _ rfl).1
    have c8 := (blk_cell q9 1 _ rfl).1
    clear q9
    refine ⟨?_⟩
    simp only [Rel.canD, List.take_succ_cons, List.take_zero, Nat.reduceAdd]
    go_wp2_with fail
    exact ⟨rfl, rfl, Below.refl _ _, rfl⟩
  · intro u w9 hb9 hd9
    have e0 : u 0 = .pointer (some ⟨q, 0, none⟩) := hd9 0 (by kernel_rfl)
    have e1 : u 1 = .agg #[.int .i64 (a : Int), .int .i64 (N : Int)] := hd9 1 (by kernel_rfl)
    clear hd9
    have c9 := HOF.out w9 hb9
    refine ⟨?_⟩
    simp only [Rel.canD, List.take_succ_cons, List.take_zero, Nat.reduceAdd]
    go_wp2_with fail
    refine c9.mono ?_
    rintro e w8 ⟨rfl, hb8⟩
    clear c9
    go_wp2_with fail
    exact ⟨rfl, rfl, hb8, rfl⟩
  · intro u w9 hb9 hd9
    clear hd9
    have q9 := (hb9.block g7 (lt_of_block HW.out.2.1)).trans HW.out.2.1
    have c9 := (blk_cell q9 0 _ rfl).1
    clear q9
    refine ⟨?_⟩
    simp only [Rel.canD, List.take_succ_cons, List.take_zero, Nat.reduceAdd]
    go_wp2_with fail
    exact ⟨rfl, rfl, Below.refl _ _, rfl⟩
  · intro u w9 hb9 hd9
    have e2 : u 2 = .slice (some ⟨b, a * 3, none⟩) N (n - a) := hd9 2 (by kernel_rfl)
    have e3 : u 3 = .func (.func 45) #[] #[.pointer (some ⟨g4, 0, none⟩)] := hd9 3 (by kernel_rfl)
    clear hd9
    have c9 := HCF.out w9 hb9
    refine ⟨?_⟩
    simp only [Rel.canD, List.take_succ_cons, List.take_zero, Nat.reduceAdd]
    go_wp2_with fail
    refine c9.mono ?_
    rintro e w8 ⟨rfl, hb8⟩
    clear c9
    go_wp2_with fail
    exact ⟨rfl, rfl, hb8, rfl⟩
  · intro u w9 hb9 hd9
    have e4 : u 4 = .bool B := hd9 4 (by kernel_rfl)
    clear hd9
    refine ⟨?_⟩
    simp only [Rel.canD, List.take_succ_cons, List.take_zero, Nat.reduceAdd]
    go_wp2_with fail
    exact ⟨rfl, rfl, Below.refl _ _, rfl⟩
  intro u w9 hb9 hR9
  have h5 : u 5 = .bool B := hR9 5 (by decide)
  simp only [Rel.canD, Nat.reduceAdd, h5]
  have HB9 := Lib.hid hb9
  clear hR9 hb9 h5
  go_simp
  go_wp2_with fail
  go_ret
  exact ⟨rfl, HBX.out.trans (HB9.out.mono HBX.out.size)⟩

set_option maxHeartbeats 3200000 in
set_option maxRecDepth 100000 in
open Classical in
theorem all_taken (w : World) (q b : Nat) (m : Sp.M) (v : Value) (es : List Sp.Ext) (h : PD w q b m) (hv : EsOut (PF q b) w v es) (hi64 : ∀ e ∈ es, I64 e.1 ∧ I64 e.2) (hel : es.length ≤ 1000) :
    Calls Try.prog 35 #[.pointer (some ⟨q, 0, none⟩), .func (.func 37) #[] #[], v] w fun e w' => e = .returned (.bool (decide (Sp.CanGive m es))) ∧ Below w.heap.size w w' := by
  have hbA : Below w.heap.size w (((w.alloc (.cells #[.pointer (some ⟨q, 0, none⟩)] 24)).alloc (.cells #[.func (.func 37) #[] #[]] 53)).alloc (.cells #[.func (.func 45) #[] #[.pointer (some ⟨w.heap.size + 1, 0, none⟩)]] 53)) := (((Below.refl _ w).alloc (Nat.le_refl _) _).alloc (by simp) _).alloc (by simp; omega) _
  obtain ⟨k3, k4, k7⟩ := three_at w (.cells #[.pointer (some ⟨q, 0, none⟩)] 24) (.cells #[.func (.func 37) #[] #[]] 53) (.cells #[.func (.func 45) #[] #[.pointer (some ⟨w.heap.size + 1, 0, none⟩)]] 53)
  have hst : (store ⟨w.heap.size + 1 + 1, 0, none⟩ (.func (.func 45) #[] #[.pointer (some ⟨w.heap.size + 1, 0, none⟩)])).run Try.prog (((w.alloc (.cells #[.pointer (some ⟨q, 0, none⟩)] 24)).alloc (.cells #[.func (.func 37) #[] #[]] 53)).alloc (.cells #[.nilFunc] 53)) = .ok () ((((w.alloc (.cells #[.pointer (some ⟨q, 0, none⟩)] 24)).alloc (.cells #[.func (.func 37) #[] #[]] 53)).alloc (.cells #[.nilFunc] 53)).setCell ⟨w.heap.size + 1 + 1, 0, none⟩ (.func (.func 45) #[] #[.pointer (some ⟨w.heap.size + 1, 0, none⟩)])) := by
    have k := blk_cell (three_at w (.cells #[.pointer (some ⟨q, 0, none⟩)] 24) (.cells #[.func (.func 37) #[] #[]] 53) (.cells #[.nilFunc] 53)).2.2 0 _ rfl
    rw [run_store _ _ _ _ _ (by rfl), k.1]; simp [k.2]
  obtain ⟨ao, cap, rfl, hc1, hc2, hg⟩ := id hv
  have HPW := Lib.hid h
  have HV := Lib.hid (hv.later hbA)
  have hP := h.later hbA
  have HBA := Lib.hid hbA
  have HI := Lib.hid hi64
  have HL := Lib.hid hel
  obtain ⟨Z, hZ⟩ : ∃ Z, Z = decide (Sp.CanGive m es) := ⟨_, rfl⟩
  have HZ := Lib.hid hZ
  rw [← hZ]
  clear h hv hi64 hel hg hbA hZ
  go_enter Try.func35, Try.ntmps35
  go_upto_region 2 with fail
  clear hst
  obtain ⟨g7, e7⟩ : ∃ g, g = w.heap.size + 1 + 1 := ⟨_, rfl⟩
  rw [← e7] at k7 ⊢
  obtain ⟨g4, e4⟩ : ∃ g, g = w.heap.size + 1 := ⟨_, rfl⟩
  rw [← e4] at k3 k4 k7 HV hP HBA ⊢
  obtain ⟨g3, e3⟩ : ∃ g, g = w.heap.size := ⟨_, rfl⟩
  rw [← e3] at k3 ⊢
  clear e7 e4 e3
  generalize World.alloc _ _ = w1 at k3 k4 k7 HV hP HBA ⊢
  have cA := apart_w w1 q b m _ es hP HV.out HI.out HL.out
  have y3 := (blk_cell k3 0 _ rfl).1
  simp only [List.getElem_toArray, List.getElem_cons_zero] at y3
  obtain ⟨L, hL⟩ : ∃ L, L = es.length := ⟨_, rfl⟩
  have HLL := Lib.hid hL
  rw [← hL] at cA hc1 HV ⊢
  by_cases hap : Sp.Apart m.length es
  · rw [decide_eq_true hap] at cA
    have HAP := Lib.hid hap
    have HW := Lib.hid (And.intro k3 (And.intro k4 (And.intro k7 hP)))
    have HC : Hid (∀ W, Below w1.heap.size w1 W → Calls Try.prog 47 #[.slice ao L cap, .func (.func 48) #[] #[.pointer (some ⟨g3, 0, none⟩), .pointer (some ⟨g7, 0, none⟩)]] W fun e W' => e = .returned (.bool (es.any (bad (fun c => decide (c.1 ≠ 0) && !c.2) m))) ∧ Below W.heap.size W W') := Lib.hid (fun W hb => by
      by_cases h0 : es = []
      · subst h0
        have : L = 0 := hL
        subst this
        refine (has_none cap ao _ W).mono ?_
        rintro e W' ⟨rfl, rfl⟩
        exact ⟨rfl, Below.refl _ _⟩
      · obtain ⟨ao2, cap2, hvv, _, _, hg⟩ := HV.out.later hb
        injection hvv with ea el ec
        subst ea ec
        obtain ⟨b1, o1, hx1, hl1, hnF, hcc⟩ := hg.resolve_left h0
        subst hx1
        have hne : 0 < es.length := List.length_pos_iff.2 h0
        haveI : Inhabited (RExt m.length) := ⟨⟨es[0], hap.1 _ (List.getElem_mem hne)⟩⟩
        have eg : ∀ args w, (callFunc 48 args).run Try.prog w = .ok (.enter 48 args) w := enters_of Try.func48 (by kernel_rfl) rfl
        have hzl : (es.attachWith (Sp.RightE m.length) hap.1).length = es.length := by simp
        have hcon := AnyQ.slices_ContainsFunc Try.hasExt 2 Try.isAgg35 Try.sizeOf35 (fun x : RExt m.length => ecells x.1) (fun _ => rfl) (fun x : RExt m.length => bad (fun c => decide (c.1 ≠ 0) && !c.2) m x.1) 48 #[.pointer (some ⟨g3, 0, none⟩), .pointer (some ⟨g7, 0, none⟩)] eg b1 o1 L cap (es.attachWith (Sp.RightE m.length) hap.1) W
          (fun W2 x hb2 => (in_taken W2 q b g3 g4 g7 m x.1 ((hP.later hb).later hb2) ((hb2.block g3 (Nat.lt_of_lt_of_le (lt_of_block k3) hb.size)).trans ((hb.block g3 (lt_of_block k3)).trans k3)) ((hb2.block g4 (Nat.lt_of_lt_of_le (lt_of_block k4) hb.size)).trans ((hb.block g4 (lt_of_block k4)).trans k4)) ((hb2.block g7 (Nat.lt_of_lt_of_le (lt_of_block k7) hb.size)).trans ((hb.block g7 (lt_of_block k7)).trans k7)) x.2).mono fun e w' he => ⟨he.1, bt5 hb2 he.2⟩) (by rw [hzl, hL]; exact Nat.le_refl _) (by have := HL.out; omega) hl1 (fun j hj i v hi => by
            have hj2 : j < es.length := by rw [hzl] at hj; exact hj
            have h2 : ((es.attachWith (Sp.RightE m.length) hap.1)[j]!).1 = es[j] := by
              rw [getElem!_pos (es.attachWith (Sp.RightE m.length) hap.1) j hj]; simp
            rw [h2] at hi
            have h1 := hcc j hj2
            match i, hi with
            | 0, hi => simp [ecells] at hi; rw [← hi]; simpa using h1.1
            | 1, hi => simp [ecells] at hi; rw [← hi]; exact h1.2
            | i + 2, hi => simp [ecells] at hi)
        change Calls Try.prog 47 _ _ _ at hcon
        rw [List.take_of_length_le (by rw [hzl, hL]; exact Nat.le_refl _)] at hcon
        have hany : (es.attachWith (Sp.RightE m.length) hap.1).any (fun x : RExt m.length => bad (fun c => decide (c.1 ≠ 0) && !c.2) m x.1) = es.any (bad (fun c => decide (c.1 ≠ 0) && !c.2) m) := by
          have : es = (es.attachWith (Sp.RightE m.length) hap.1).map (·.1) := List.ext_getElem (by simp) (fun i h1 h2 => by simp)
          conv => rhs; rw [this]
          rw [List.any_map]; rfl
        rw [hany] at hcon
        exact hcon)
    have HR : Hid (decide (Sp.CanGive m es) = !(es.any (bad (fun c => decide (c.1 ≠ 0) && !c.2) m))) := Lib.hid (by
      have hiff : es.any (bad (fun c => decide (c.1 ≠ 0) && !c.2) m) = false ↔ Sp.CanGive m es := by
        rw [List.any_eq_false]
        unfold Sp.CanGive
        constructor
        · intro hx
          refine ⟨hap, fun e he i hi hin => ?_⟩
          have := (bad_iff (hap.1 e he)).1 (by simpa using hx e he) i hi hin
          simpa using this
        · rintro ⟨_, hx⟩ e he
          have : bad (fun c => decide (c.1 ≠ 0) && !c.2) m e = false := (bad_iff (hap.1 e he)).2 (fun i hi hin => by
            have := hx e he i hi hin
            simpa using this)
          rw [this]; decide
      by_cases hc : Sp.CanGive m es
      · rw [decide_eq_true hc, hiff.2 hc]; rfl
      · rw [decide_eq_false hc]
        cases hb : es.any (bad (fun c => decide (c.1 ≠ 0) && !c.2) m) with
        | true => rfl
        | false => exact absurd (hiff.1 hb) hc)
    obtain ⟨r, hr⟩ : ∃ r, r = es.any (bad (fun c => decide (c.1 ≠ 0) && !c.2) m) := ⟨_, rfl⟩
    rw [← hr] at HC HR
    clear hr hap hP k3 k4 k7 hL HV
    go_wp2_with fail
    refine cA.mono ?_
    rintro e w2 ⟨rfl, hb2⟩
    have cC := HC.out w2 hb2
    have HB2 := Lib.hid hb2
    clear cA hb2 y3
    go_wp2_with fail
    refine cC.mono ?_
    rintro e w3 ⟨rfl, hb3⟩
    have HB3 := Lib.hid (bt5 HB2.out hb3)
    clear cC hb3
    go_wp2_with fail
    go_ret
    exact ⟨by rw [HZ.out, HR.out]; rfl, HBA.out.trans (HB3.out.mono HBA.out.size)⟩
  · rw [decide_eq_false hap] at cA
    have HN : Hid (decide (Sp.CanGive m es) = false) := Lib.hid (decide_eq_false (fun hc => hap hc.1))
    clear hap hP k3 k4 k7 hL HV
    go_wp2_with fail
    refine cA.mono ?_
    rintro e w2 ⟨rfl, hb2⟩
    have HB2 := Lib.hid hb2
    clear cA hb2 y3
    go_wp2_with fail
    go_ret
    exact ⟨by rw [HZ.out, HN.out]; rfl, HBA.out.trans (HB2.out.mono HBA.out.size)⟩
end Go.Proofs.Ytgfgafondiipoaa
