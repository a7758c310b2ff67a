/- Package rules, the program's side: a safe method; URIs in a row; where a field leads. -/
import Derived.Test.YtoanelobggledaaGreatDoorVRpC
import Derived.Test.YtoanelobggledaaGreatDoorVRpP
namespace Go.Proofs.YtoanelobggledaaGreatDoor
open Go.RowKit

theorem Takes.lets {P : Program} {ops : Array Oper} {S : World → Prop} {K : Act → Prop} {i : Nat} {is : List Nat} {a : Act} {o : Oper} (v : Value) (ho : ops[i]? = some o) (hg : Region.wanted o (yielded ops a.tmps) = true) (hr : ∀ w, S w → (execOp a.eval o).run P w = .ok (.value v) w) (h : Takes P ops S K is (a.put o.dst v)) : Takes P ops S K (i :: is) a :=
  ⟨o, v, ho, .inl ⟨hg, hr⟩, h⟩
theorem Takes.skips {P : Program} {ops : Array Oper} {S : World → Prop} {K : Act → Prop} {i : Nat} {is : List Nat} {a : Act} {o : Oper} (ho : ops[i]? = some o) (hg : Region.wanted o (yielded ops a.tmps) = false) (h : Takes P ops S K is (a.put o.dst undef)) : Takes P ops S K (i :: is) a :=
  ⟨o, undef, ho, .inr ⟨hg, rfl⟩, h⟩
set_option maxHeartbeats 1600000 in
set_option maxRecDepth 100000 in
theorem safe_w (m : List UInt8) (w : World) : Calls Tryz.prog 60 #[.string (str m)] w fun e w' => e = .returned (.bool (Rl.safe m)) ∧ w = w' := by
  by_cases h1 : m = Rl.mGet
  · subst h1
    rw [show str Rl.mGet = ⟨#[71, 69, 84]⟩ from rfl]
    go_enter Tryz.func60, Tryz.ntmps60
    go_wp2_with fail
    go_ret
    exact ⟨rfl, rfl⟩
  by_cases h2 : m = Rl.mHead
  · subst h2
    rw [show str Rl.mHead = ⟨#[72, 69, 65, 68]⟩ from rfl]
    go_enter Tryz.func60, Tryz.ntmps60
    go_wp2_with fail
    go_ret
    exact ⟨rfl, rfl⟩
  by_cases h3 : m = Rl.mOptions
  · subst h3
    rw [show str Rl.mOptions = ⟨#[79, 80, 84, 73, 79, 78, 83]⟩ from rfl]
    go_enter Tryz.func60, Tryz.ntmps60
    go_wp2_with fail
    go_ret
    exact ⟨rfl, rfl⟩
  by_cases h4 : m = Rl.mTrace
  · subst h4
    rw [show str Rl.mTrace = ⟨#[84, 82, 65, 67, 69]⟩ from rfl]
    go_enter Tryz.func60, Tryz.ntmps60
    go_wp2_with fail
    go_ret
    exact ⟨rfl, rfl⟩
  have HR : Hid (Rl.safe m = false) := Lib.hid (by unfold Rl.safe; simp [h1, h2, h3, h4])
  have e1 : ((str m).toList == [71, 69, 84]) = false := by rw [str_toList]; exact beq_eq_false_iff_ne.2 h1
  have e2 : ((str m).toList == [72, 69, 65, 68]) = false := by rw [str_toList]; exact beq_eq_false_iff_ne.2 h2
  have e3 : ((str m).toList == [79, 80, 84, 73, 79, 78, 83]) = false := by rw [str_toList]; exact beq_eq_false_iff_ne.2 h3
  have e4 : ((str m).toList == [84, 82, 65, 67, 69]) = false := by rw [str_toList]; exact beq_eq_false_iff_ne.2 h4
  rw [HR.out]
  generalize str m = s at *
  clear h1 h2 h3 h4 HR
  go_enter Tryz.func60, Tryz.ntmps60
  go_wp2_with fail
  go_ret
  exact ⟨rfl, rfl⟩
set_option maxHeartbeats 1600000 in
set_option maxRecDepth 100000 in
theorem IndexU_w (vn : Value) (us : List Tg.U) (v : Tg.U) (w : World) (hn : UIn w vn us) (hl : us.length ≤ 1000) :
    Calls Tryz.prog 92 #[vn, uval v] w fun e w' => ∃ i : Int, e = .returned (.int .i64 i) ∧ -1 ≤ i ∧ i ≤ 1000 ∧ (0 ≤ i ↔ v ∈ us) ∧ Below w.heap.size w w' := by
  have hbw : Below w.heap.size w (w.alloc (.cells #[.string (str v.host), .int .i64 v.port, .string (str v.path)] 46)) := (Below.refl _ w).alloc (Nat.le_refl _) _
  have hU0 := Res.start w (.string (str v.host)) (.int .i64 v.port) (.string (str v.path))
  obtain ⟨ao, cap, rfl, hc⟩ := hn
  have HC := Lib.hid hc
  obtain ⟨n, hnn⟩ : ∃ n, n = us.length := ⟨_, rfl⟩
  have HN := Lib.hid hnn
  rw [← hnn] at hl ⊢
  rw [uval_u]
  have HQ := Lib.hid (fun (k : Nat) (hk : k < us.length) (W : World) => eql_uri v us[k] W)
  have HG := Lib.hid (fun (x y k : Nat) (hk : k < us.length) (W : World) => guard_uri .eql (.inl rfl) x y v us[k] W)
  clear hc hnn
  go_enter Tryz.func92, Tryz.ntmps92
  go_upto_region 1 with fail
  generalize w.alloc (.cells #[.string (str v.host), .int .i64 v.port, .string (str v.path)] 46) = W at *
  have HB := Lib.hid hbw
  have HU := Lib.hid hU0
  generalize w.heap.size = g at hU0 ⊢
  have HC0 := Lib.hid (box_cell hU0.cell)
  have HGL := Lib.hid (lt_of_block hU0.cell)
  clear hU0 hbw HU
  go_wp2_with fail
  go_loopw [8] (fun i wr => ∃ k : Nat, k ≤ n ∧ i = .int .i64 k ∧ Below W.heap.size W wr ∧ Hid (∀ j (hj : j < us.length), j < k → us[j] ≠ v)) (fun i _ => n - (intOf i).toNat)
  case atStart => exact ⟨0, by omega, rfl, Below.refl _ _, Lib.hid (fun j _ h => absurd h (by omega))⟩
  case round =>
    obtain ⟨k, hk9, rfl, hbr, HT⟩ := hrel
    have hbw := HB.out.trans (hbr.mono HB.out.size)
    have c0 := (hbr.cell (p := ⟨g, 0, none⟩) HGL.out).trans HC0.out.1
    have c1 := (hbr.cell (p := ⟨g, 1, none⟩) HGL.out).trans HC0.out.2.1
    have c2 := (hbr.cell (p := ⟨g, 2, none⟩) HGL.out).trans HC0.out.2.2
    have hdn : ∀ m, Below W.heap.size W (wr.drewN m) := fun m => hbr.trans ((bdrewN wr m).mono hbr.size)
    have hdw : ∀ m, Below w.heap.size w (wr.drewN m) := fun m => hbw.trans ((bdrewN wr m).mono hbw.size)
    by_cases hlt : k < n
    · have hkl : k < us.length := by have := HN.out; omega
      obtain ⟨b', o', rfl, hbl, hcell⟩ : ∃ b o, ao = some ⟨b, o, none⟩ ∧ b < w.heap.size ∧ (w.cell? ⟨b, o + k * 3, none⟩ = some (.string (str us[k].host)) ∧ w.cell? ⟨b, o + k * 3 + 1, none⟩ = some (.int .i64 us[k].port) ∧ w.cell? ⟨b, o + k * 3 + 2, none⟩ = some (.string (str us[k].path))) := by
        rcases HC.out with h | ⟨b, o, h4, h5, h6⟩
        · exfalso; rw [h] at hkl; cases hkl
        · exact ⟨b, o, h4, h5, h6 k hkl⟩
      have k0 := (hbw.cell (p := ⟨b', o' + k * 3, none⟩) hbl).trans hcell.1
      have k1 := (hbw.cell (p := ⟨b', o' + k * 3 + 1, none⟩) hbl).trans hcell.2.1
      have k2 := (hbw.cell (p := ⟨b', o' + k * 3 + 2, none⟩) hbl).trans hcell.2.2
      have hQ := HQ.out k hkl
      have hG := fun x y => HG.out x y k hkl
      rw [uval_u, uval_u] at hQ
      simp only [uval_u] at hG
      have HS : Hid (us[k] ≠ v → ∀ j (hj : j < us.length), j < k + 1 → us[j] ≠ v) := Lib.hid fun h j hj h1 => by
        by_cases e : j = k
        · subst e; exact h
        · exact HT.out j hj (by omega)
      by_cases he : v = us[k]
      · rw [decide_eq_true he] at hQ
        have HY : Hid (v ∈ us) := Lib.hid (he ▸ List.getElem_mem hkl)
        generalize str us[k].host = z0 at *
        generalize us[k].port = z1 at *
        generalize str us[k].path = z2 at *
        generalize str v.host = y0 at *
        generalize v.port = y1 at *
        generalize str v.path = y2 at *
        clear he hcell HQ HG HT HS hbl
        go_wp2_with fail
        go_quiet (fail)
        go_wp2_with fail
        go_ret
        exact ⟨k, rfl, by omega, by omega, ⟨fun _ => HY.out, fun _ => by omega⟩, hdw _⟩
      · rw [decide_eq_false he] at hQ
        have HY := Lib.hid (HS.out (fun e => he e.symm))
        generalize str us[k].host = z0 at *
        generalize us[k].port = z1 at *
        generalize str us[k].path = z2 at *
        generalize str v.host = y0 at *
        generalize v.port = y1 at *
        generalize str v.path = y2 at *
        clear he hcell HT HS hbl
        go_wp2_with fail
        go_quiet (fail)
        go_wp2_with fail
        go_roundw
        case rel => exact ⟨k + 1, by omega, by go_num, hdn _, HY⟩
        case measure => simp [intOf]; omega
    · have HY : Hid (¬ v ∈ us) := Lib.hid (fun hm => by
        obtain ⟨j, hj, e⟩ := List.getElem_of_mem hm
        exact HT.out j hj (by have := HN.out; omega) e)
      go_wp2_with fail
      go_ret
      exact ⟨-1, rfl, by omega, by omega, ⟨fun h => absurd h (by omega), fun h => absurd h HY.out⟩, hbw⟩
set_option maxHeartbeats 1600000 in
set_option maxRecDepth 100000 in
theorem ContainsU_w (vn : Value) (us : List Tg.U) (v : Tg.U) (w : World) (hn : UIn w vn us) (hl : us.length ≤ 1000) :
    Calls Tryz.prog 63 #[vn, uval v] w fun e w' => e = .returned (.bool (decide (v ∈ us))) ∧ Below w.heap.size w w' := by
  have hbw : Below w.heap.size w (w.alloc (.cells #[.string (str v.host), .int .i64 v.port, .string (str v.path)] 46)) := (Below.refl _ w).alloc (Nat.le_refl _) _
  have hU0 := Res.start w (.string (str v.host)) (.int .i64 v.port) (.string (str v.path))
  have c := IndexU_w vn us v _ (hn.later hbw) hl
  obtain ⟨ao, cap, rfl, hc⟩ := hn
  clear hc
  have HD : Hid (∀ i : Int, (0 ≤ i ↔ v ∈ us) → decide (0 ≤ i) = decide (v ∈ us)) := Lib.hid fun i h => decide_eq_decide.2 h
  generalize decide (v ∈ us) = R at *
  generalize (v ∈ us) = RP at *
  generalize us.length = n at *
  rw [uval_u] at c ⊢
  generalize str v.host = y0 at *
  generalize v.port = y1 at *
  generalize str v.path = y2 at *
  go_enter Tryz.func63, Tryz.ntmps63
  go_upto_region 1 with fail
  generalize w.alloc (.cells #[.string y0, .int .i64 y1, .string y2] 46) = W at *
  go_wp2_with (refine ldU hU0.cell rfl (.tmp 3) rfl rfl ?_)
  refine c.mono ?_
  rintro e w1 ⟨i, rfl, hi1, hi2, hi3, hb1⟩
  have HI := Lib.hid hi3
  clear hi3
  go_wp2_with fail
  go_ret
  exact ⟨by rw [← HD.out _ HI.out]; rfl, hbw.trans (hb1.mono hbw.size)⟩
set_option maxHeartbeats 3200000 in
set_option maxRecDepth 100000 in
theorem near_w (u : Tg.U) (fv : Value) (fs : List Fld.F) (nm : List UInt8) (w : World) (hE : Env10 w) (hf : FIn w fv fs) (hs : Mid fs) (hn : nm.length ≤ 100) (hh : u.host.length ≤ 300) (hp : u.path.length ≤ 1000) (hk : u.port ≤ 9223372036854775807) :
    Calls Tryz.prog 62 #[uval u, fv, .string (str nm)] w fun e w' => (∃ z, e = .returned (.tuple #[uval z, .bool (Rl.lead u fs nm).isSome]) ∧ ∀ v, Rl.lead u fs nm = some v → z = v) ∧ Below w.heap.size w w' := by
  have cO := fun W' (hb : Below w.heap.size w W') => One_p fv fs nm W' (hf.later hb) hs (by omega)
  obtain ⟨fa, fc, hfv, hx9⟩ := id hf
  clear hx9
  rw [hfv] at cO ⊢
  have h4 := pair_at w (.cells #[.string (str u.host), .int .i64 u.port, .string (str u.path)] 46) (.cells #[.string ⟨#[]⟩, .int .i64 0, .string ⟨#[]⟩] 46)
  obtain ⟨W, hW⟩ : ∃ W, W = (w.alloc (.cells #[.string (str u.host), .int .i64 u.port, .string (str u.path)] 46)).alloc (.cells #[.string ⟨#[]⟩, .int .i64 0, .string ⟨#[]⟩] 46) := ⟨_, rfl⟩
  have hbw : Below w.heap.size w W := by rw [hW]; exact ((Below.refl _ w).alloc (Nat.le_refl _) _).alloc (by simp) _
  rw [← hW] at h4
  have hU0 : Res w w.heap.size W (.string (str u.host)) (.int .i64 u.port) (.string (str u.path)) := ⟨h4.1, hbw, by omega⟩
  have hR0 : Res w (w.heap.size + 1) W (.string ⟨#[]⟩) (.int .i64 0) (.string ⟨#[]⟩) := ⟨h4.2, hbw, by omega⟩
  clear h4 hbw
  cases ho : Rl.one fs nm with
  | none =>
    have HL : Hid (Rl.lead u fs nm = none) := Lib.hid (by unfold Rl.lead; rw [ho])
    rw [HL.out]
    rw [ho, show onp none = .tuple #[.string ⟨#[]⟩, .bool false] from rfl] at cO
    have cO1 := cO W hU0.below
    clear cO HL hf hs hn hh hp hk hE ho hfv
    rw [uval_u]
    generalize str nm = sn at *
    generalize fs.length = fl at *
    go_enter Tryz.func62, Tryz.ntmps62
    go_upto_region 1 with fail
    rw [← hW]
    clear hW
    generalize w.heap.size + 1 = gR at *
    go_wp2_with fail
    refine cO1.mono ?_
    rintro e W1 ⟨rfl, hb1⟩
    have hR1 := hR0.later hb1
    clear hU0 hR0 cO1 hb1
    go_wp2_with (refine stU hR1 rfl (.tmp 6) (.tmp 20) rfl _ _ _ rfl rfl ?_; intro W9 hR9 _)
    (try simp only [Exit.inBlock, Exit.then])
    refine ret_uri rfl gR _ _ _ rfl hR9.cell rfl ?_
    exact ⟨⟨⟨[], 0, []⟩, rfl, fun v h => by cases h⟩, hR9.below⟩
  | some r =>
    rw [ho, show onp (some r) = .tuple #[.string (str r), .bool true] from rfl] at cO
    have cO1 := cO W hU0.below
    have hrl : r.length ≤ 500 := by
      have := hs.got nm
      unfold Rl.one at ho
      split at ho
      · rename_i v hv
        injection ho with ho
        subst ho
        exact this.2 v (by rw [hv]; simp)
      · cases ho
    have cR := Lib.hid (fun W' (hb : Below w.heap.size w W') => Resolve_s u r W' (by omega) (by omega) hk (by omega) (hE.later hb).max (hE.later hb).tabs.base)
    obtain ⟨⟨v, er⟩, hve⟩ : ∃ q, Tg.resolve u r = q := ⟨_, rfl⟩
    have HL : Hid (Rl.lead u fs nm = if er = 0 ∧ v.host = u.host ∧ v.port = u.port then some v else none) := Lib.hid (by unfold Rl.lead; rw [ho]; simp only [hve])
    rw [HL.out]
    rw [hve] at cR
    have e1 : ures (v, er) = .tuple #[.agg #[.string (str v.host), .int .i64 v.port, .string (str v.path)], .int .i64 er] := rfl
    rw [e1] at cR
    rw [uval_u] at cR ⊢
    have HV := Lib.hid (uval_u v)
    have hb1 := str_beq v.host u.host
    clear cO HL hf hs hn hh hp hk hE ho hfv e1 hve hrl
    generalize str nm = sn at *
    generalize str r = sr at *
    generalize fs.length = fl at *
    have HIF : Hid (∀ x y z : Bool, decide (er = 0) = x → decide (v.host = u.host) = y → decide (v.port = u.port) = z → (x && y && z) = (if er = 0 ∧ v.host = u.host ∧ v.port = u.port then some v else none).isSome) := Lib.hid fun x y z hx hy hz => by
      rw [← hx, ← hy, ← hz]
      by_cases h1 : er = 0 <;> by_cases h2 : v.host = u.host <;> by_cases h3 : v.port = u.port <;> simp [h1, h2, h3]
    have HIV : Hid (∀ t, (if er = 0 ∧ v.host = u.host ∧ v.port = u.port then some v else none) = some t → v = t) := Lib.hid fun t h => by
      split at h
      · injection h
      · cases h
    generalize hqq : (if er = 0 ∧ v.host = u.host ∧ v.port = u.port then some v else none) = LD at *
    clear hqq
    generalize hdh : decide (v.host = u.host) = dh at *
    clear hdh
    go_enter Tryz.func62, Tryz.ntmps62
    go_upto_region 1 with fail
    rw [← hW]
    clear hW
    have hne1 : w.heap.size ≠ w.heap.size + 1 := by omega
    generalize w.heap.size + 1 = gR at *
    obtain ⟨gA, hgA⟩ : ∃ gA, gA = w.heap.size := ⟨_, rfl⟩
    rw [← hgA] at hU0 hne1 ⊢
    have HGA := Lib.hid hgA
    clear hgA
    go_wp2_with fail
    refine cO1.mono ?_
    rintro e W1 ⟨rfl, hx1⟩
    have hU1 := hU0.later hx1
    have hR1 := hR0.later hx1
    have cR1 := cR.out W1 hR1.below
    clear hU0 hR0 cO1 hx1 cR
    go_wp2_with (refine ldU hU1.cell rfl (.tmp 3) rfl rfl ?_)
    refine cR1.mono ?_
    rintro e W2 ⟨rfl, hx2⟩
    have hU2 := (hU1.later hx2).alloc (.cells #[.string (str v.host), .int .i64 v.port, .string (str v.path)] 46)
    have hR2 := (hR1.later hx2).alloc (.cells #[.string (str v.host), .int .i64 v.port, .string (str v.path)] 46)
    have hne2 : W2.heap.size ≠ gR := by have := lt_of_block (hR1.later hx2).cell; omega
    have hS2 := Res.start W2 (.string (str v.host)) (.int .i64 v.port) (.string (str v.path))
    clear hU1 hR1 hx2 cR1
    go_upto_region 5 with fail
    generalize W2.alloc (.cells #[.string (str v.host), .int .i64 v.port, .string (str v.path)] 46) = W3 at *
    generalize W2.heap.size = gZ at *
    have hU3 := hU2.cell
    have hZ3 := hS2.cell
    have hR3 := hR2
    generalize str v.host = vh at *
    generalize str u.host = uh at *
    generalize str v.path = vp at *
    generalize str u.path = up at *
    generalize v.port = vk at *
    generalize u.port = uk at *
    clear hU2 hR2 hS2
    by_cases he : er = 0
    case neg =>
      have hb0 : (er == 0) = false := beq_eq_false_iff_ne.2 he
      have HR := Lib.hid (HIF.out false dh (decide (vk = uk)) (decide_eq_false he) rfl rfl)
      have OV0 : W3.drew.heap[gA]? = some (.cells #[.string uh, .int .i64 uk, .string up] 46 (0, 0)) ∧ W3.drew.heap[gZ]? = some (.cells #[.string vh, .int .i64 vk, .string vp] 46 (0, 0)) := ⟨blk_keep hU3 ((Below.refl _ W3).drew), blk_keep hZ3 ((Below.refl _ W3).drew)⟩
      have hRp := hR3.later ((Below.refl _ W3).drew)
      refine wp_region_noPanic ?_
      refine wp_region_held (S := fun W' => W'.heap[gA]? = some (.cells #[.string uh, .int .i64 uk, .string up] 46 (0, 0)) ∧ W'.heap[gZ]? = some (.cells #[.string vh, .int .i64 vk, .string vp] 46 (0, 0))) (by kernel_rfl) ?_
      change wpAnyH _ _ _ _ _ _ _ _ W3.drew
      generalize W3.drew = V0 at *
      clear hU3 hZ3 hR3 W3
      refine held_of_takes (fuel := 2) (by kernel_rfl) (fun _ _ _ _ _ h => h) OV0 [0, 1, 2, 3, 4, 5, 6, 7, 8, 9, 10, 11, 12, 13, 14, 15, 16] _ _ (by kernel_rfl) ?_
      refine Takes.val (.agg #[.string vh, .int .i64 vk, .string vp]) rfl rfl (fun W' h => exec_row rfl gZ rfl 46 _ (0, 0) _ h.2 Tryz.underlying46 rfl (by kernel_rfl)) ?_
      refine Takes.val (.int .i64 er) rfl rfl (fun _ _ => by kernel_rfl) ?_
      refine Takes.val (.bool false) rfl rfl (fun _ _ => by go_simp) ?_
      refine Takes.val (.bool false) rfl rfl (fun _ _ => by kernel_rfl) ?_
      refine Takes.skips rfl (by kernel_rfl) ?_
      refine Takes.skips rfl (by kernel_rfl) ?_
      refine Takes.skips rfl (by kernel_rfl) ?_
      refine Takes.skips rfl (by kernel_rfl) ?_
      refine Takes.skips rfl (by kernel_rfl) ?_
      refine Takes.val (.bool false) rfl rfl (fun _ _ => by kernel_rfl) ?_
      refine Takes.val (.bool false) rfl rfl (fun _ _ => by kernel_rfl) ?_
      refine Takes.skips rfl (by kernel_rfl) ?_
      refine Takes.skips rfl (by kernel_rfl) ?_
      refine Takes.skips rfl (by kernel_rfl) ?_
      refine Takes.skips rfl (by kernel_rfl) ?_
      refine Takes.skips rfl (by kernel_rfl) ?_
      refine Takes.val (.bool false) rfl rfl (fun _ _ => by kernel_rfl) ?_
      refine wpAnyH_all (rs := [17]) (by kernel_rfl) (by simp) (fun i hi => ?_)
      obtain rfl := List.mem_singleton.1 hi
      refine wpOp_known (.store 46 (.tmp 6) (.tmp 27)) none (by kernel_rfl) (fun o e1 e2 => wp_store_row 46 _ _ e1 gR #[.string vh, .int .i64 vk, .string vp] (by kernel_rfl) (by kernel_rfl) 46 #[.string ⟨#[]⟩, .int .i64 0, .string ⟨#[]⟩] hRp.cell (by kernel_rfl) rfl (by simp [Value.oneCell']) ?_)
      rw [e2]
      have hF := setRow_heap V0 gR #[.string ⟨#[]⟩, .int .i64 0, .string ⟨#[]⟩] #[.string vh, .int .i64 vk, .string vp] 46 (0, 0) hRp.cell
      have HB := Lib.hid (Below.row hRp.below hRp.ge #[.string vh, .int .i64 vk, .string vp])
      have OE : (V0.setRow gR #[.string vh, .int .i64 vk, .string vp]).heap[gA]? = some (.cells #[.string uh, .int .i64 uk, .string up] 46 (0, 0)) ∧ (V0.setRow gR #[.string vh, .int .i64 vk, .string vp]).heap[gZ]? = some (.cells #[.string vh, .int .i64 vk, .string vp] 46 (0, 0)) := ⟨heap_row OV0.1 hne1 _, heap_row OV0.2 hne2 _⟩
      refine ⟨OE, ?_⟩
      generalize V0.setRow gR #[.string vh, .int .i64 vk, .string vp] = VE at *
      refine held_of_takes (fuel := 0) (by kernel_rfl) (fun _ _ _ _ _ h => h) OE [18] _ _ (by kernel_rfl) ?_
      refine Takes.val (.bool false) rfl rfl (fun _ _ => by kernel_rfl) ?_
      refine wpAnyH_done (P := Tryz.prog) (S := fun W' => W'.heap[gA]? = some (.cells #[.string uh, .int .i64 uk, .string up] 46 (0, 0)) ∧ W'.heap[gZ]? = some (.cells #[.string vh, .int .i64 vk, .string vp] 46 (0, 0))) (by kernel_rfl) ?_ 0
      refine NoPanic.normal ?_
      go_simp
      go_wp2_with fail
      (try simp only [Exit.inBlock, Exit.then])
      refine ret_uri rfl gR _ _ _ rfl hF rfl ?_
      rw [← HR.out]
      exact ⟨⟨v, by rw [HV.out]; rfl, HIV.out⟩, HB.out⟩
    subst he
    cases dh with
    | false =>
      have HR := Lib.hid (HIF.out true false (decide (vk = uk)) (by simp) rfl rfl)
      have OV0 : W3.drew.heap[gA]? = some (.cells #[.string uh, .int .i64 uk, .string up] 46 (0, 0)) ∧ W3.drew.heap[gZ]? = some (.cells #[.string vh, .int .i64 vk, .string vp] 46 (0, 0)) := ⟨blk_keep hU3 ((Below.refl _ W3).drew), blk_keep hZ3 ((Below.refl _ W3).drew)⟩
      have hRp := hR3.later ((Below.refl _ W3).drew)
      refine wp_region_noPanic ?_
      refine wp_region_held (S := fun W' => W'.heap[gA]? = some (.cells #[.string uh, .int .i64 uk, .string up] 46 (0, 0)) ∧ W'.heap[gZ]? = some (.cells #[.string vh, .int .i64 vk, .string vp] 46 (0, 0))) (by kernel_rfl) ?_
      change wpAnyH _ _ _ _ _ _ _ _ W3.drew
      generalize W3.drew = V0 at *
      clear hU3 hZ3 hR3 W3
      refine held_of_takes (fuel := 2) (by kernel_rfl) (fun _ _ _ _ _ h => h) OV0 [0, 1, 2, 3, 4, 5, 6, 7, 8, 9, 10, 11, 12, 13, 14, 15, 16] _ _ (by kernel_rfl) ?_
      refine Takes.val (.agg #[.string vh, .int .i64 vk, .string vp]) rfl rfl (fun W' h => exec_row rfl gZ rfl 46 _ (0, 0) _ h.2 Tryz.underlying46 rfl (by kernel_rfl)) ?_
      refine Takes.val (.int .i64 0) rfl rfl (fun _ _ => by kernel_rfl) ?_
      refine Takes.val (.bool true) rfl rfl (fun _ _ => by kernel_rfl) ?_
      refine Takes.val (.bool true) rfl rfl (fun _ _ => by kernel_rfl) ?_
      refine Takes.lets (.pointer (some ⟨gZ, 0, none⟩)) rfl (by kernel_rfl) (fun _ _ => by kernel_rfl) ?_
      refine Takes.lets (.string vh) rfl (by kernel_rfl) (fun W' h => exec_load (s := 31) rfl (by kernel_rfl) (load_str (g := gZ) (k := 0) (by rw [World.cell?, h.2]; rfl))) ?_
      refine Takes.lets (.pointer (some ⟨gA, 0, none⟩)) rfl (by kernel_rfl) (fun _ _ => by kernel_rfl) ?_
      refine Takes.lets (.string uh) rfl (by kernel_rfl) (fun W' h => exec_load (s := 33) rfl (by kernel_rfl) (load_str (g := gA) (k := 0) (by rw [World.cell?, h.1]; rfl))) ?_
      refine Takes.lets (.bool false) rfl (by kernel_rfl) (fun _ _ => by go_simp) ?_
      refine Takes.val (.bool false) rfl rfl (fun _ _ => by kernel_rfl) ?_
      refine Takes.val (.bool false) rfl rfl (fun _ _ => by kernel_rfl) ?_
      refine Takes.skips rfl (by kernel_rfl) ?_
      refine Takes.skips rfl (by kernel_rfl) ?_
      refine Takes.skips rfl (by kernel_rfl) ?_
      refine Takes.skips rfl (by kernel_rfl) ?_
      refine Takes.skips rfl (by kernel_rfl) ?_
      refine Takes.val (.bool false) rfl rfl (fun _ _ => by kernel_rfl) ?_
      refine wpAnyH_all (rs := [17]) (by kernel_rfl) (by simp) (fun i hi => ?_)
      obtain rfl := List.mem_singleton.1 hi
      refine wpOp_known (.store 46 (.tmp 6) (.tmp 27)) none (by kernel_rfl) (fun o e1 e2 => wp_store_row 46 _ _ e1 gR #[.string vh, .int .i64 vk, .string vp] (by kernel_rfl) (by kernel_rfl) 46 #[.string ⟨#[]⟩, .int .i64 0, .string ⟨#[]⟩] hRp.cell (by kernel_rfl) rfl (by simp [Value.oneCell']) ?_)
      rw [e2]
      have hF := setRow_heap V0 gR #[.string ⟨#[]⟩, .int .i64 0, .string ⟨#[]⟩] #[.string vh, .int .i64 vk, .string vp] 46 (0, 0) hRp.cell
      have HB := Lib.hid (Below.row hRp.below hRp.ge #[.string vh, .int .i64 vk, .string vp])
      have OE : (V0.setRow gR #[.string vh, .int .i64 vk, .string vp]).heap[gA]? = some (.cells #[.string uh, .int .i64 uk, .string up] 46 (0, 0)) ∧ (V0.setRow gR #[.string vh, .int .i64 vk, .string vp]).heap[gZ]? = some (.cells #[.string vh, .int .i64 vk, .string vp] 46 (0, 0)) := ⟨heap_row OV0.1 hne1 _, heap_row OV0.2 hne2 _⟩
      refine ⟨OE, ?_⟩
      generalize V0.setRow gR #[.string vh, .int .i64 vk, .string vp] = VE at *
      refine held_of_takes (fuel := 0) (by kernel_rfl) (fun _ _ _ _ _ h => h) OE [18] _ _ (by kernel_rfl) ?_
      refine Takes.val (.bool false) rfl rfl (fun _ _ => by kernel_rfl) ?_
      refine wpAnyH_done (P := Tryz.prog) (S := fun W' => W'.heap[gA]? = some (.cells #[.string uh, .int .i64 uk, .string up] 46 (0, 0)) ∧ W'.heap[gZ]? = some (.cells #[.string vh, .int .i64 vk, .string vp] 46 (0, 0))) (by kernel_rfl) ?_ 0
      refine NoPanic.normal ?_
      go_simp
      go_wp2_with fail
      (try simp only [Exit.inBlock, Exit.then])
      refine ret_uri rfl gR _ _ _ rfl hF rfl ?_
      rw [← HR.out]
      exact ⟨⟨v, by rw [HV.out]; rfl, HIV.out⟩, HB.out⟩
    | true =>
      by_cases hq : vk = uk
      · have hqb : (vk == uk) = true := by rw [hq]; simp
        have HR := Lib.hid (HIF.out true true true (by simp) rfl (decide_eq_true hq))
        subst hq
        have OV0 : W3.drew.heap[gA]? = some (.cells #[.string uh, .int .i64 vk, .string up] 46 (0, 0)) ∧ W3.drew.heap[gZ]? = some (.cells #[.string vh, .int .i64 vk, .string vp] 46 (0, 0)) := ⟨blk_keep hU3 ((Below.refl _ W3).drew), blk_keep hZ3 ((Below.refl _ W3).drew)⟩
        have hRp := hR3.later ((Below.refl _ W3).drew)
        refine wp_region_noPanic ?_
        refine wp_region_held (S := fun W' => W'.heap[gA]? = some (.cells #[.string uh, .int .i64 vk, .string up] 46 (0, 0)) ∧ W'.heap[gZ]? = some (.cells #[.string vh, .int .i64 vk, .string vp] 46 (0, 0))) (by kernel_rfl) ?_
        change wpAnyH _ _ _ _ _ _ _ _ W3.drew
        generalize W3.drew = V0 at *
        clear hU3 hZ3 hR3 W3
        refine held_of_takes (fuel := 2) (by kernel_rfl) (fun _ _ _ _ _ h => h) OV0 [0, 1, 2, 3, 4, 5, 6, 7, 8, 9, 10, 11, 12, 13, 14, 15, 16] _ _ (by kernel_rfl) ?_
        refine Takes.val (.agg #[.string vh, .int .i64 vk, .string vp]) rfl rfl (fun W' h => exec_row rfl gZ rfl 46 _ (0, 0) _ h.2 Tryz.underlying46 rfl (by kernel_rfl)) ?_
        refine Takes.val (.int .i64 0) rfl rfl (fun _ _ => by kernel_rfl) ?_
        refine Takes.val (.bool true) rfl rfl (fun _ _ => by kernel_rfl) ?_
        refine Takes.val (.bool true) rfl rfl (fun _ _ => by kernel_rfl) ?_
        refine Takes.lets (.pointer (some ⟨gZ, 0, none⟩)) rfl (by kernel_rfl) (fun _ _ => by kernel_rfl) ?_
        refine Takes.lets (.string vh) rfl (by kernel_rfl) (fun W' h => exec_load (s := 31) rfl (by kernel_rfl) (load_str (g := gZ) (k := 0) (by rw [World.cell?, h.2]; rfl))) ?_
        refine Takes.lets (.pointer (some ⟨gA, 0, none⟩)) rfl (by kernel_rfl) (fun _ _ => by kernel_rfl) ?_
        refine Takes.lets (.string uh) rfl (by kernel_rfl) (fun W' h => exec_load (s := 33) rfl (by kernel_rfl) (load_str (g := gA) (k := 0) (by rw [World.cell?, h.1]; rfl))) ?_
        refine Takes.lets (.bool true) rfl (by kernel_rfl) (fun _ _ => by go_simp) ?_
        refine Takes.val (.bool true) rfl rfl (fun _ _ => by kernel_rfl) ?_
        refine Takes.val (.bool true) rfl rfl (fun _ _ => by kernel_rfl) ?_
        refine Takes.lets (.pointer (some ⟨gZ, 1, none⟩)) rfl (by kernel_rfl) (fun _ _ => by kernel_rfl) ?_
        refine Takes.lets (.int .i64 vk) rfl (by kernel_rfl) (fun W' h => exec_load (s := 38) rfl (by kernel_rfl) (load_num (g := gZ) (k := 1) (by rw [World.cell?, h.2]; rfl))) ?_
        refine Takes.lets (.pointer (some ⟨gA, 1, none⟩)) rfl (by kernel_rfl) (fun _ _ => by kernel_rfl) ?_
        refine Takes.lets (.int .i64 vk) rfl (by kernel_rfl) (fun W' h => exec_load (s := 40) rfl (by kernel_rfl) (load_num (g := gA) (k := 1) (by rw [World.cell?, h.1]; rfl))) ?_
        refine Takes.lets (.bool true) rfl (by kernel_rfl) (fun _ _ => by go_simp) ?_
        refine Takes.val (.bool true) rfl rfl (fun _ _ => by kernel_rfl) ?_
        refine wpAnyH_all (rs := [17]) (by kernel_rfl) (by simp) (fun i hi => ?_)
        obtain rfl := List.mem_singleton.1 hi
        refine wpOp_known (.store 46 (.tmp 6) (.tmp 27)) none (by kernel_rfl) (fun o e1 e2 => wp_store_row 46 _ _ e1 gR #[.string vh, .int .i64 vk, .string vp] (by kernel_rfl) (by kernel_rfl) 46 #[.string ⟨#[]⟩, .int .i64 0, .string ⟨#[]⟩] hRp.cell (by kernel_rfl) rfl (by simp [Value.oneCell']) ?_)
        rw [e2]
        have hF := setRow_heap V0 gR #[.string ⟨#[]⟩, .int .i64 0, .string ⟨#[]⟩] #[.string vh, .int .i64 vk, .string vp] 46 (0, 0) hRp.cell
        have HB := Lib.hid (Below.row hRp.below hRp.ge #[.string vh, .int .i64 vk, .string vp])
        have OE : (V0.setRow gR #[.string vh, .int .i64 vk, .string vp]).heap[gA]? = some (.cells #[.string uh, .int .i64 vk, .string up] 46 (0, 0)) ∧ (V0.setRow gR #[.string vh, .int .i64 vk, .string vp]).heap[gZ]? = some (.cells #[.string vh, .int .i64 vk, .string vp] 46 (0, 0)) := ⟨heap_row OV0.1 hne1 _, heap_row OV0.2 hne2 _⟩
        refine ⟨OE, ?_⟩
        generalize V0.setRow gR #[.string vh, .int .i64 vk, .string vp] = VE at *
        refine held_of_takes (fuel := 0) (by kernel_rfl) (fun _ _ _ _ _ h => h) OE [18] _ _ (by kernel_rfl) ?_
        refine Takes.val (.bool true) rfl rfl (fun _ _ => by kernel_rfl) ?_
        refine wpAnyH_done (P := Tryz.prog) (S := fun W' => W'.heap[gA]? = some (.cells #[.string uh, .int .i64 vk, .string up] 46 (0, 0)) ∧ W'.heap[gZ]? = some (.cells #[.string vh, .int .i64 vk, .string vp] 46 (0, 0))) (by kernel_rfl) ?_ 0
        refine NoPanic.normal ?_
        go_simp
        go_wp2_with fail
        (try simp only [Exit.inBlock, Exit.then])
        refine ret_uri rfl gR _ _ _ rfl hF rfl ?_
        rw [← HR.out]
        exact ⟨⟨v, by rw [HV.out]; rfl, HIV.out⟩, HB.out⟩
      · have hqb : (vk == uk) = false := beq_eq_false_iff_ne.2 hq
        have HR := Lib.hid (HIF.out true true false (by simp) rfl (decide_eq_false hq))
        have OV0 : W3.drew.heap[gA]? = some (.cells #[.string uh, .int .i64 uk, .string up] 46 (0, 0)) ∧ W3.drew.heap[gZ]? = some (.cells #[.string vh, .int .i64 vk, .string vp] 46 (0, 0)) := ⟨blk_keep hU3 ((Below.refl _ W3).drew), blk_keep hZ3 ((Below.refl _ W3).drew)⟩
        have hRp := hR3.later ((Below.refl _ W3).drew)
        refine wp_region_noPanic ?_
        refine wp_region_held (S := fun W' => W'.heap[gA]? = some (.cells #[.string uh, .int .i64 uk, .string up] 46 (0, 0)) ∧ W'.heap[gZ]? = some (.cells #[.string vh, .int .i64 vk, .string vp] 46 (0, 0))) (by kernel_rfl) ?_
        change wpAnyH _ _ _ _ _ _ _ _ W3.drew
        generalize W3.drew = V0 at *
        clear hU3 hZ3 hR3 W3
        refine held_of_takes (fuel := 2) (by kernel_rfl) (fun _ _ _ _ _ h => h) OV0 [0, 1, 2, 3, 4, 5, 6, 7, 8, 9, 10, 11, 12, 13, 14, 15, 16] _ _ (by kernel_rfl) ?_
        refine Takes.val (.agg #[.string vh, .int .i64 vk, .string vp]) rfl rfl (fun W' h => exec_row rfl gZ rfl 46 _ (0, 0) _ h.2 Tryz.underlying46 rfl (by kernel_rfl)) ?_
        refine Takes.val (.int .i64 0) rfl rfl (fun _ _ => by kernel_rfl) ?_
        refine Takes.val (.bool true) rfl rfl (fun _ _ => by kernel_rfl) ?_
        refine Takes.val (.bool true) rfl rfl (fun _ _ => by kernel_rfl) ?_
        refine Takes.lets (.pointer (some ⟨gZ, 0, none⟩)) rfl (by kernel_rfl) (fun _ _ => by kernel_rfl) ?_
        refine Takes.lets (.string vh) rfl (by kernel_rfl) (fun W' h => exec_load (s := 31) rfl (by kernel_rfl) (load_str (g := gZ) (k := 0) (by rw [World.cell?, h.2]; rfl))) ?_
        refine Takes.lets (.pointer (some ⟨gA, 0, none⟩)) rfl (by kernel_rfl) (fun _ _ => by kernel_rfl) ?_
        refine Takes.lets (.string uh) rfl (by kernel_rfl) (fun W' h => exec_load (s := 33) rfl (by kernel_rfl) (load_str (g := gA) (k := 0) (by rw [World.cell?, h.1]; rfl))) ?_
        refine Takes.lets (.bool true) rfl (by kernel_rfl) (fun _ _ => by go_simp) ?_
        refine Takes.val (.bool true) rfl rfl (fun _ _ => by kernel_rfl) ?_
        refine Takes.val (.bool true) rfl rfl (fun _ _ => by kernel_rfl) ?_
        refine Takes.lets (.pointer (some ⟨gZ, 1, none⟩)) rfl (by kernel_rfl) (fun _ _ => by kernel_rfl) ?_
        refine Takes.lets (.int .i64 vk) rfl (by kernel_rfl) (fun W' h => exec_load (s := 38) rfl (by kernel_rfl) (load_num (g := gZ) (k := 1) (by rw [World.cell?, h.2]; rfl))) ?_
        refine Takes.lets (.pointer (some ⟨gA, 1, none⟩)) rfl (by kernel_rfl) (fun _ _ => by kernel_rfl) ?_
        refine Takes.lets (.int .i64 uk) rfl (by kernel_rfl) (fun W' h => exec_load (s := 40) rfl (by kernel_rfl) (load_num (g := gA) (k := 1) (by rw [World.cell?, h.1]; rfl))) ?_
        refine Takes.lets (.bool false) rfl (by kernel_rfl) (fun _ _ => by go_simp) ?_
        refine Takes.val (.bool false) rfl rfl (fun _ _ => by kernel_rfl) ?_
        refine wpAnyH_all (rs := [17]) (by kernel_rfl) (by simp) (fun i hi => ?_)
        obtain rfl := List.mem_singleton.1 hi
        refine wpOp_known (.store 46 (.tmp 6) (.tmp 27)) none (by kernel_rfl) (fun o e1 e2 => wp_store_row 46 _ _ e1 gR #[.string vh, .int .i64 vk, .string vp] (by kernel_rfl) (by kernel_rfl) 46 #[.string ⟨#[]⟩, .int .i64 0, .string ⟨#[]⟩] hRp.cell (by kernel_rfl) rfl (by simp [Value.oneCell']) ?_)
        rw [e2]
        have hF := setRow_heap V0 gR #[.string ⟨#[]⟩, .int .i64 0, .string ⟨#[]⟩] #[.string vh, .int .i64 vk, .string vp] 46 (0, 0) hRp.cell
        have HB := Lib.hid (Below.row hRp.below hRp.ge #[.string vh, .int .i64 vk, .string vp])
        have OE : (V0.setRow gR #[.string vh, .int .i64 vk, .string vp]).heap[gA]? = some (.cells #[.string uh, .int .i64 uk, .string up] 46 (0, 0)) ∧ (V0.setRow gR #[.string vh, .int .i64 vk, .string vp]).heap[gZ]? = some (.cells #[.string vh, .int .i64 vk, .string vp] 46 (0, 0)) := ⟨heap_row OV0.1 hne1 _, heap_row OV0.2 hne2 _⟩
        refine ⟨OE, ?_⟩
        generalize V0.setRow gR #[.string vh, .int .i64 vk, .string vp] = VE at *
        refine held_of_takes (fuel := 0) (by kernel_rfl) (fun _ _ _ _ _ h => h) OE [18] _ _ (by kernel_rfl) ?_
        refine Takes.val (.bool false) rfl rfl (fun _ _ => by kernel_rfl) ?_
        refine wpAnyH_done (P := Tryz.prog) (S := fun W' => W'.heap[gA]? = some (.cells #[.string uh, .int .i64 uk, .string up] 46 (0, 0)) ∧ W'.heap[gZ]? = some (.cells #[.string vh, .int .i64 vk, .string vp] 46 (0, 0))) (by kernel_rfl) ?_ 0
        refine NoPanic.normal ?_
        go_simp
        go_wp2_with fail
        (try simp only [Exit.inBlock, Exit.then])
        refine ret_uri rfl gR _ _ _ rfl hF rfl ?_
        rw [← HR.out]
        exact ⟨⟨v, by rw [HV.out]; rfl, HIV.out⟩, HB.out⟩
end Go.Proofs.YtoanelobggledaaGreatDoor

namespace Go.Proofs.YtoanelobggledaaGreatDoor
open Go.RowKit

def uriL (u : Tg.U) (fs : List Fld.F) (k : Nat) : List Tg.U := (([Rl.kLoc, Rl.kCLoc] : List (List UInt8)).take k).foldl (fun us n => Rl.addU us (Rl.lead u fs n)) [u]
theorem uriL_succ (u : Tg.U) (fs : List Fld.F) (k : Nat) (h : k < 2) : uriL u fs (k + 1) = Rl.addU (uriL u fs k) (Rl.lead u fs (([Rl.kLoc, Rl.kCLoc] : List (List UInt8))[k]'h)) := by
  match k, h with
  | 0, _ => rfl
  | 1, _ => rfl
theorem names2_at (k : Nat) (h : k < 2) : (#[.string ⟨#[108, 111, 99, 97, 116, 105, 111, 110]⟩, .string ⟨#[99, 111, 110, 116, 101, 110, 116, 45, 108, 111, 99, 97, 116, 105, 111, 110]⟩] : Array Value)[k]? = some (.string (str (([Rl.kLoc, Rl.kCLoc] : List (List UInt8))[k]'h))) := by
  match k, h with
  | 0, _ => rfl
  | 1, _ => rfl
theorem addU_len (us : List Tg.U) (o : Option Tg.U) : (Rl.addU us o).length ≤ us.length + 1 := by
  unfold Rl.addU
  split
  · omega
  · split
    · omega
    · simp
theorem uriL_len (u : Tg.U) (fs : List Fld.F) (k : Nat) : (uriL u fs k).length ≤ 3 := by
  have h1 := addU_len [u] (Rl.lead u fs Rl.kLoc)
  have h2 := addU_len (Rl.addU [u] (Rl.lead u fs Rl.kLoc)) (Rl.lead u fs Rl.kCLoc)
  simp only [List.length_cons, List.length_nil] at h1
  match k with
  | 0 => show ([u] : List Tg.U).length ≤ 3; simp
  | 1 => show (Rl.addU [u] (Rl.lead u fs Rl.kLoc)).length ≤ 3; omega
  | k + 2 =>
    have : uriL u fs (k + 2) = Rl.addU (Rl.addU [u] (Rl.lead u fs Rl.kLoc)) (Rl.lead u fs Rl.kCLoc) := by unfold uriL; simp
    rw [this]; omega
structure OwnV (w W : World) (gA gB : Nat) (cu mc : Array Value) : Prop where
  uri : W.heap[gA]? = some (.cells cu 46 (0, 0))
  msg : W.heap[gB]? = some (.cells mc 27 (0, 0))
  below : Below w.heap.size w W
theorem OwnV.later {w W W' : World} {gA gB : Nat} {cu mc : Array Value} (h : OwnV w W gA gB cu mc) (hb : Below W.heap.size W W') : OwnV w W' gA gB cu mc :=
  ⟨blk_keep h.uri hb, blk_keep h.msg hb, h.below.trans (hb.mono h.below.size)⟩
set_option maxHeartbeats 6400000 in
set_option maxRecDepth 100000 in
theorem Invalid_w (u : Tg.U) (m : List UInt8) (a b c : ByteArray) (st mi : Int) (fv bv : Value) (fs : List Fld.F) (w : World) (hE : Env10 w) (hf : FIn w fv fs) (sb : Sl bv) (hs : Mid fs) (hh : u.host.length ≤ 300) (hp : u.path.length ≤ 1000) (hk : u.port ≤ 9223372036854775807) :
    Calls Tryz.prog 32 #[uval u, .string (str m), mv a b st c mi fv bv] w fun e w' => (∃ v, e = .returned v ∧ UIn w' v (Rl.invalid u m st fs)) ∧ Below w.heap.size w w' := by
  obtain ⟨fa, fc, hfv, hx9⟩ := id hf
  obtain ⟨ba, bl, bc, rfl⟩ := sb
  clear hx9
  have cN := Lib.hid (fun nm W' (hb : Below w.heap.size w W') (hn : nm.length ≤ 100) => near_w u fv fs nm W' (hE.later hb) (hf.later hb) hs hn hh hp hk)
  rw [hfv] at cN ⊢
  clear hfv
  have cS := fun W' => safe_w m W'
  obtain ⟨W, hW⟩ : ∃ W, W = (w.alloc (.cells #[.string (str u.host), .int .i64 u.port, .string (str u.path)] 46)).alloc (.cells #[.string a, .string b, .int .i64 st, .string c, .int .i64 mi, .slice fa fs.length fc, .slice ba bl bc] 27) := ⟨_, rfl⟩
  have hbw : Below w.heap.size w W := by rw [hW]; exact ((Below.refl _ w).alloc (Nat.le_refl _) _).alloc (by simp) _
  have h3 := pair_at w (.cells #[.string (str u.host), .int .i64 u.port, .string (str u.path)] 46) (.cells #[.string a, .string b, .int .i64 st, .string c, .int .i64 mi, .slice fa fs.length fc, .slice ba bl bc] 27)
  rw [← hW] at h3
  have hO : OwnV w W w.heap.size (w.heap.size + 1) #[.string (str u.host), .int .i64 u.port, .string (str u.path)] #[.string a, .string b, .int .i64 st, .string c, .int .i64 mi, .slice fa fs.length fc, .slice ba bl bc] := ⟨h3.1, h3.2, hbw⟩
  have HI : Hid ((Rl.safe m = true ∨ st < 200 ∨ 399 < st → Rl.invalid u m st fs = []) ∧ (Rl.safe m = false → ¬ st < 200 → ¬ 399 < st → uriL u fs 2 = Rl.invalid u m st fs)) := Lib.hid ⟨fun h => by unfold Rl.invalid; rw [if_pos (h.imp id (Or.imp id (fun h => by omega)))], fun h1 h2 h3 => by
    have h4 : ¬ (Rl.safe m = true ∨ st < 200 ∨ 400 ≤ st) := fun e => by
      rcases e with e | e | e
      · rw [h1] at e; cases e
      · exact h2 e
      · omega
    unfold Rl.invalid; rw [if_neg h4]; rfl⟩
  clear h3 hf hs hE
  generalize hfl : fs.length = fl at *
  clear hfl
  obtain ⟨m0, m1, m2, m3, m4, m5, m6⟩ := cells7_at hO.msg
  generalize hsm : Rl.safe m = sf at *
  clear hsm
  rw [uval_u]
  unfold mv mcell
  have cS1 := cS W
  generalize str m = sm at *
  clear cS
  go_enter Tryz.func32, Tryz.ntmps32
  go_upto_region 1 with fail
  rw [← hW]
  clear hW
  generalize w.heap.size + 1 = gB at *
  obtain ⟨gA, hgA⟩ : ∃ gA, gA = w.heap.size := ⟨_, rfl⟩
  rw [← hgA] at hO ⊢
  have HGA := Lib.hid hgA
  clear hgA
  go_wp2_with fail
  refine cS1.mono ?_
  rintro e w1 ⟨rfl, rfl⟩
  clear cS1
  cases sf with
  | true =>
    have HR := Lib.hid (HI.out.1 (.inl (by first | rfl | trivial)))
    clear HI
    go_wp2_with fail
    go_ret
    exact ⟨⟨_, rfl, by rw [HR.out]; exact ⟨none, 0, rfl, .inl rfl⟩⟩, hbw⟩
  | false =>
    by_cases g1 : st < 200
    · have HR := Lib.hid (HI.out.1 (.inr (.inl g1)))
      clear HI
      go_wp2_with fail
      go_ret
      exact ⟨⟨_, rfl, by rw [HR.out]; exact ⟨none, 0, rfl, .inl rfl⟩⟩, hbw⟩
    have g1b : decide (st < 200) = false := decide_eq_false g1
    by_cases g2 : 399 < st
    · have HR := Lib.hid (HI.out.1 (.inr (.inr g2)))
      clear HI
      go_wp2_with fail
      go_ret
      exact ⟨⟨_, rfl, by rw [HR.out]; exact ⟨none, 0, rfl, .inl rfl⟩⟩, hbw⟩
    have g2b : decide (399 < st) = false := decide_eq_false g2
    have HI2 := Lib.hid (HI.out.2 (by first | rfl | trivial) (by omega) (by omega))
    clear HI
    have hhs : (str u.host).size ≤ 281474976710656 := by rw [str_size]; omega
    go_upto_region 3 with fail
    clear m0 m1 m2 m3 m4 m5 m6 hbw
    go_cut [7] (fun u7 wx => ∃ w3 Wb, w3 = wx ∧ UBuf Wb w3 u7 [u] ∧ OwnV w Wb gA gB #[.string (str u.host), .int .i64 u.port, .string (str u.path)] #[.string a, .string b, .int .i64 st, .string c, .int .i64 mi, .slice fa fl fc, .slice ba bl bc])
    case first =>
      have OV0 : OwnV w W.drew gA gB #[.string (str u.host), .int .i64 u.port, .string (str u.path)] #[.string a, .string b, .int .i64 st, .string c, .int .i64 mi, .slice fa fl fc, .slice ba bl bc] := hO.later ((Below.refl _ W).drew)
      refine wp_region_noPanic ?_
      refine wp_region_held (S := fun W' => OwnV w W' gA gB #[.string (str u.host), .int .i64 u.port, .string (str u.path)] #[.string a, .string b, .int .i64 st, .string c, .int .i64 mi, .slice fa fl fc, .slice ba bl bc]) (by kernel_rfl) ?_
      change wpAnyH _ _ _ _ _ _ _ _ W.drew
      generalize W.drew = V0 at *
      clear hO W
      refine held_of_takes (fuel := 5) (by kernel_rfl) (fun _ _ _ _ _ h => h) OV0 [0, 1, 3, 4, 5, 6] _ _ (by kernel_rfl) ?_
      refine Takes.val (.pointer (some ⟨gA, 0, none⟩)) rfl rfl (fun _ _ => by kernel_rfl) ?_
      refine Takes.val (.string (str u.host)) rfl rfl (fun W' h => exec_load (s := 26) rfl (by kernel_rfl) (load_str (g := gA) (k := 0) (by rw [World.cell?, h.uri]; rfl))) ?_
      refine Takes.val (.pointer (some ⟨gA, 1, none⟩)) rfl rfl (fun _ _ => by kernel_rfl) ?_
      refine Takes.val (.int .i64 u.port) rfl rfl (fun W' h => exec_load (s := 29) rfl (by kernel_rfl) (load_num (g := gA) (k := 1) (by rw [World.cell?, h.uri]; rfl))) ?_
      refine Takes.val (.pointer (some ⟨gA, 2, none⟩)) rfl rfl (fun _ _ => by kernel_rfl) ?_
      refine Takes.val (.string (str u.path)) rfl rfl (fun W' h => exec_load (s := 31) rfl (by kernel_rfl) (load_str (g := gA) (k := 2) (by rw [World.cell?, h.uri]; rfl))) ?_
      refine wpAnyH_all (rs := [2]) (by kernel_rfl) (by simp) (fun i hi => ?_)
      obtain rfl := List.mem_singleton.1 hi
      refine wpOp_into (f := 61) (args := #[.string (str u.host)]) rfl rfl (by kernel_rfl) ((Clone_big (str u.host) V0 (by rw [str_size]; omega)).mono ?_)
      rintro e V1 ⟨rfl, hbV1⟩
      have OV1 := OV0.later hbV1
      refine ⟨_, rfl, OV1, ?_⟩
      refine wpAnyH_all (rs := [7]) (by kernel_rfl) (by simp) (fun i hi => ?_)
      obtain rfl := List.mem_singleton.1 hi
      refine wpOp_into (f := 61) (args := #[.string (str u.path)]) rfl rfl (by kernel_rfl) ((Clone_big (str u.path) V1 (by rw [str_size]; omega)).mono ?_)
      rintro e V2 ⟨rfl, hbV2⟩
      have OV2 := OV1.later hbV2
      refine ⟨_, rfl, OV2, ?_⟩
      refine held_of_takes (fuel := 2) (by kernel_rfl) (fun _ _ _ _ _ h => h) OV2 [8] _ _ (by kernel_rfl) ?_
      refine Takes.val (.agg #[.string (str u.host), .int .i64 u.port, .string (str u.path)]) rfl rfl (fun _ _ => by kernel_rfl) ?_
      refine wpAnyH_all (rs := [9]) (by kernel_rfl) (by simp) (fun i hi => ?_)
      obtain rfl := List.mem_singleton.1 hi
      have hU := UBuf.one V2 u #[.string (str u.host), .int .i64 u.port, .string (str u.path)] rfl
      have OV3 := OV2.later hU.2
      refine wpOp_make (v := .slice (some ⟨V2.heap.size, 0, none⟩) 1 1) (w' := V2.alloc (.cells #[.string (str u.host), .int .i64 u.port, .string (str u.path)] 46)) rfl rfl (by kernel_rfl) ⟨OV3, ?_⟩
      generalize V2.alloc (.cells #[.string (str u.host), .int .i64 u.port, .string (str u.path)] 46) = V3 at *
      refine held_of_takes (fuel := 0) (by kernel_rfl) (fun _ _ _ _ _ h => h) OV3 [10] _ _ (by kernel_rfl) ?_
      refine Takes.val (.slice (some ⟨V2.heap.size, 0, none⟩) 1 1) rfl rfl (fun _ _ => by kernel_rfl) ?_
      refine wpAnyH_done (P := Tryz.prog) (S := fun W' => OwnV w W' gA gB #[.string (str u.host), .int .i64 u.port, .string (str u.path)] #[.string a, .string b, .int .i64 st, .string c, .int .i64 mi, .slice fa fl fc, .slice ba bl bc]) (by kernel_rfl) ?_ 0
      refine NoPanic.normal ?_
      go_simp
      go_wp2_with fail
      go_meet
      case rel => exact ⟨_, V2, rfl, hU, OV2⟩
    case rest =>
      obtain ⟨w3, Wb, rfl, hU, hO3⟩ := hcut
      have hL := SBuf.lit_p w3 [Rl.kLoc, Rl.kCLoc] #[.string ⟨#[108, 111, 99, 97, 116, 105, 111, 110]⟩, .string ⟨#[99, 111, 110, 116, 101, 110, 116, 45, 108, 111, 99, 97, 116, 105, 111, 110]⟩] rfl (by decide)
      have hU4 := hU.after hL.2
      have hN4 := heap_alloc_new w3 (.cells #[.string ⟨#[108, 111, 99, 97, 116, 105, 111, 110]⟩, .string ⟨#[99, 111, 110, 116, 101, 110, 116, 45, 108, 111, 99, 97, 116, 105, 111, 110]⟩] 9)
      go_upto_region 5 with fail
      generalize w3.alloc (.cells #[.string ⟨#[108, 111, 99, 97, 116, 105, 111, 110]⟩, .string ⟨#[99, 111, 110, 116, 101, 110, 116, 45, 108, 111, 99, 97, 116, 105, 111, 110]⟩] 9) = w4 at *
      generalize w3.heap.size = gN at *
      have HO := Lib.hid hO3
      have HU4 := Lib.hid hU4
      clear hL hO3 hU hU4
      go_wp2_with fail
      go_loopw [7, 38] (fun v i wr => ∃ k : Nat, k ≤ 2 ∧ i = .int .i64 k ∧ Hid (UBuf Wb wr v (uriL u fs k)) ∧ wr.heap[gN]? = some (.cells #[.string ⟨#[108, 111, 99, 97, 116, 105, 111, 110]⟩, .string ⟨#[99, 111, 110, 116, 101, 110, 116, 45, 108, 111, 99, 97, 116, 105, 111, 110]⟩] 9 (0, 0))) (fun _ i _ => 2 - (intOf i).toNat)
      case atStart => exact ⟨0, by omega, rfl, HU4, hN4⟩
      clear hN4
      case round =>
        obtain ⟨k, hk9, rfl, HV, hN⟩ := hrel
        have hO := HO.out.later HV.out.2
        by_cases hlt : k < 2
        · have hkl : k < ([Rl.kLoc, Rl.kCLoc] : List (List UInt8)).length := hlt
          obtain ⟨nm, hnm⟩ : ∃ nm, nm = ([Rl.kLoc, Rl.kCLoc] : List (List UInt8))[k] := ⟨_, rfl⟩
          have hcell : wr.cell? ⟨gN, k, none⟩ = some (.string (str nm)) := (row_at hN k).trans (by rw [hnm]; exact names2_at k hlt)
          have hnl : nm.length ≤ 100 := by
            rw [hnm]
            have : ∀ q ∈ ([Rl.kLoc, Rl.kCLoc] : List (List UInt8)), q.length ≤ 100 := by decide
            exact this _ (List.getElem_mem hkl)
          have cN1 := cN.out nm wr hO.below hnl
          have HLK : Hid (uriL u fs (k + 1) = Rl.addU (uriL u fs k) (Rl.lead u fs nm)) := Lib.hid (by rw [hnm]; exact uriL_succ u fs k hlt)
          have HLN := Lib.hid (uriL_len u fs k)
          obtain ⟨m0, m1, m2, m3, m4, m5, m6⟩ := cells7_at hO.msg
          have hUc := hO.uri
          clear hnm hkl
          generalize hsn : str nm = sn at *
          clear hsn hnl
          generalize uriL u fs k = LK at *
          go_wp2_with (refine ldU hUc rfl (.tmp 3) rfl rfl ?_)
          refine cN1.mono ?_
          rintro e w5 ⟨⟨z, rfl, hz⟩, hx5⟩
          have hB5 := HV.out.after hx5
          have hS5 := Res.start w5 (.string (str z.host)) (.int .i64 z.port) (.string (str z.path))
          have hN5 := blk_keep hN hx5
          clear cN1 hx5 HV hN hO hUc m0 m1 m2 m3 m4 m5 m6 hcell
          rw [uval_u]
          go_upto_region 8 with fail
          change Code.wp _ _ _ _ (w5.alloc (.cells #[.string (str z.host), .int .i64 z.port, .string (str z.path)] 46))
          have hB6 := hB5.after hS5.below
          have hN6 := blk_keep hN5 hS5.below
          generalize w5.alloc (.cells #[.string (str z.host), .int .i64 z.port, .string (str z.path)] 46) = w6 at *
          generalize w5.heap.size = gZ at *
          have hZ6 := hS5.cell
          clear hB5 hN5 hS5
          cases hl : Rl.lead u fs nm with
          | none =>
            have HLE : Hid (uriL u fs (k + 1) = LK) := Lib.hid (by rw [HLK.out, hl]; rfl)
            clear HLK hl hz HLN
            simp only [Option.isSome_none]
            go_wp2_with fail
            go_roundw
            case rel => exact ⟨k + 1, by omega, by go_num, by rw [HLE.out]; exact Lib.hid hB6, hN6⟩
            case measure => simp [intOf]; omega
          | some v =>
            have hzv := hz v hl
            subst hzv
            have cT := ContainsU_w _ LK z w6 hB6.uin (by have := HLN.out; omega)
            rw [uval_u] at cT
            have HY : Hid (z ∈ LK → uriL u fs (k + 1) = LK) := Lib.hid fun h => by rw [HLK.out, hl]; unfold Rl.addU; simp [h]
            have HN2 : Hid (¬ z ∈ LK → uriL u fs (k + 1) = LK ++ [z]) := Lib.hid fun h => by rw [HLK.out, hl]; unfold Rl.addU; simp [h]
            clear HLK hl hz
            simp only [Option.isSome_some]
            by_cases hin : z ∈ LK
            · have HLE := Lib.hid (HY.out hin)
              rw [decide_eq_true hin] at cT
              clear HY HN2 hin HLN
              go_wp2_with (refine wpList_row_if rfl 46 _ rfl gZ rfl 46 #[.string (str z.host), .int .i64 z.port, .string (str z.path)] (0, 0) _ hZ6 Tryz.underlying46 rfl (by kernel_rfl) ?_)
              refine cT.mono ?_
              rintro e w7 ⟨rfl, hx7⟩
              have hB7 := Lib.hid (hB6.after hx7)
              have hN7 := blk_keep hN6 hx7
              clear hx7 hB6 cT hN6
              go_wp2_with fail
              go_roundw
              case rel => exact ⟨k + 1, by omega, by go_num, by rw [HLE.out]; exact hB7, hN7⟩
              case measure => simp [intOf]; omega
            · have HLE := Lib.hid (HN2.out hin)
              rw [decide_eq_false hin] at cT
              clear HY HN2 hin
              go_wp2_with (refine wpList_row_if rfl 46 _ rfl gZ rfl 46 #[.string (str z.host), .int .i64 z.port, .string (str z.path)] (0, 0) _ hZ6 Tryz.underlying46 rfl (by kernel_rfl) ?_)
              refine cT.mono ?_
              rintro e w7 ⟨rfl, hx7⟩
              have hB7 := hB6.after hx7
              have hZ7 := blk_keep hZ6 hx7
              have hN7 := blk_keep hN6 hx7
              clear hx7 hB6 cT hZ6 hN6
              go_wp2_with (first | refine ldU hZ7 rfl (.tmp 10) rfl rfl ?_ | (at_builtin; refine appU hB7 z (by have := HLN.out; omega) rfl _ _ rfl _ _ _ rfl rfl rfl rfl rfl ?_; intro v9 w9 hB9 hK9; have hN9 := hK9 gN _ hN7 (fun cs fz he => by injection he with _ h2; exact absurd h2 (by decide)); have HB9 := Lib.hid hB9; clear hB9 hK9))
              go_roundw
              case rel => exact ⟨k + 1, by omega, by go_num, by rw [HLE.out]; exact HB9, hN9⟩
              case measure => simp [intOf]; omega
        · have HE : Hid (uriL u fs k = Rl.invalid u m st fs) := Lib.hid (by rw [show k = 2 by omega]; exact HI2.out)
          have hB := HV.out
          rw [HE.out] at hB
          have hI := Lib.hid (And.intro hB.uin (HO.out.below.trans (hB.2.mono HO.out.below.size)))
          clear hB HV
          go_wp2_with fail
          go_ret
          exact ⟨⟨_, rfl, hI.out.1⟩, hI.out.2⟩
end Go.Proofs.YtoanelobggledaaGreatDoor

