/- Package fresh, the program's side: a response's lifetime. -/
import Derived.Test.YtajbeoignhnpjaaDoorFrJ
import Derived.Test.YtajbeoignhnpjaaDoorFrH
namespace Go.Proofs.YtajbeoignhnpjaaDoor
open Go.RowKit

/-- A lifetime as the two values that are told. -/
def lv (x : Int × Bool) : Value := .tuple #[.int .i64 x.1, .bool x.2]
set_option maxHeartbeats 1600000 in
set_option maxRecDepth 100000 in
theorem lifetime_w (r : Rsp) (fs : List Fld.F) (g : Int) (w : World) (hf : FIn w r.fv fs) (hs : shortR fs = true) (hE : Env10 w) (hsay : r.s = Fr.says fs) (hdt : r.d = Fr.date D0 fs g) (hd : 0 ≤ r.d ∧ r.d ≤ 1099511627776) :
    Calls Tryd.prog 16 #[rv r] w fun e w' => e = .returned (lv (Fr.life D0 r.st fs g)) ∧ Below w.heap.size w w' := by
  have hbw : Below w.heap.size w (w.alloc (.cells (rcells r) 50)) := (Below.refl _ w).alloc (Nat.le_refl _) _
  have hr := RspAt.new w r
  have c2 := hr.cell 2
  have c5 := hr.cell 5
  have c16 := hr.cell 16
  have c17 := hr.cell 17
  have c20 := hr.cell 20
  change _ = some (Value.int .i64 r.st) at c2
  change _ = some r.fv at c5
  change _ = some (Value.int .i64 r.s.ma) at c16
  change _ = some (Value.int .i64 r.s.sa) at c17
  change _ = some (Value.int .i64 r.d) at c20
  have hi := rsp_info r
  have hf0 := hf
  obtain ⟨ao, ca, hfv, hx9⟩ := id hf
  clear hx9
  rw [hfv] at hf c5
  have cG := fun W' (hb : Below w.heap.size w W') => Get_r (.slice ao fs.length ca) fs Fr.kExp (by decide) hs W' (hf.later hb)
  have cX := fun W' (hb : Below w.heap.size w W') => moment_w r fs Fr.kExp (by decide) W' (hf0.later hb) hs (hE.later hb)
  have cM := fun W' (hb : Below w.heap.size w W') => moment_w r fs Fr.kMod (by decide) W' (hf0.later hb) hs (hE.later hb)
  have cH := fun W' => Heuristic_w r.st W'
  have cE := fun n W' => within_w n 2147483647 W' (by decide)
  have hmx := fun a (h : Fr.moment D0 fs Fr.kExp = some a) => Fr.moment_bd D0_fine h
  have hmm := fun a (h : Fr.moment D0 fs Fr.kMod = some a) => Fr.moment_bd D0_fine h
  have hll := (got_len hs Fr.kExp).1
  rw [show str Fr.kExp = ⟨#[101, 120, 112, 105, 114, 101, 115]⟩ from rfl] at cG cX
  rw [show str Fr.kMod = ⟨#[108, 97, 115, 116, 45, 109, 111, 100, 105, 102, 105, 101, 100]⟩ from rfl] at cM
  have L1 := Lib.hid (fun h => Fr.life_sa D0 r.st (fs := fs) g h)
  have L2 := Lib.hid (fun h h1 => Fr.life_ma D0 r.st (fs := fs) g h h1)
  have L3 := Lib.hid (fun n h h1 h2 hm => Fr.life_exp D0 r.st (fs := fs) g (n := n) h h1 h2 hm)
  have L4 := Lib.hid (fun h h1 h2 hm => Fr.life_bad D0 r.st (fs := fs) g h h1 h2 hm)
  have L5 := Lib.hid (fun n h h1 h2 hm hh hn => Fr.life_mod D0 r.st (fs := fs) g (n := n) h h1 h2 hm hh hn)
  have L6 := Lib.hid (fun n h h1 h2 hm hh => Fr.life_not D0 r.st (fs := fs) g (n := n) h h1 h2 hm hh)
  have L7 := Lib.hid (fun h h1 h2 hm => Fr.life_none D0 r.st (fs := fs) g h h1 h2 hm)
  rw [← hdt] at L3 L5 L6
  rw [← hsay] at L1 L2 L3 L4 L5 L6 L7
  clear hf hf0 hE hs hsay hdt hfv
  unfold rv RspAt Fr.maxD at *
  generalize Fr.life D0 r.st fs g = L at *
  generalize Fld.get fs Fr.kExp = gs at *
  generalize Fr.moment D0 fs Fr.kExp = mx at *
  generalize Fr.moment D0 fs Fr.kMod = mm at *
  generalize Fr.heur r.st = hh at *
  generalize fs.length = N at *
  generalize rcells r = cc at *
  generalize r.s.ma = ma at *
  generalize r.s.sa = sa at *
  generalize r.st = st at *
  generalize r.d = d at *
  clear r fs g
  by_cases h1 : 0 ≤ sa
  · rw [show L = (sa, true) from L1.out h1]
    clear L1 L2 L3 L4 L5 L6 L7 cG cX cM cH cE hmx hmm hll
    unfold lv
    go_enter Tryd.func16, Tryd.ntmps16
    go_upto_region 1 with fail
    generalize w.alloc (.cells cc 50) = W at *

    go_wp2_with fail
    go_ret2
    exact ⟨rfl, hbw⟩
  have h1' : ¬ 0 ≤ sa := h1
  by_cases h2 : 0 ≤ ma
  · rw [show L = (ma, true) from L2.out h1 h2]
    clear L1 L2 L3 L4 L5 L6 L7 cG cX cM cH cE hmx hmm hll
    unfold lv
    go_enter Tryd.func16, Tryd.ntmps16
    go_upto_region 1 with fail
    generalize w.alloc (.cells cc 50) = W at *

    go_wp2_with fail
    go_ret2
    exact ⟨rfl, hbw⟩
  match gs with
  | q :: qs =>
    have hq : q :: qs ≠ [] := by simp
    obtain ⟨n, hn⟩ : ∃ n, n = (q :: qs).length := ⟨_, rfl⟩
    have hn0 : (0 : Int) < (n : Int) := by rw [hn]; simp
    rw [← hn] at hll
    have HN := Lib.hid hn
    clear hn
    match mx with
    | none =>
      rw [show L = (0, true) from L4.out h1 h2 hq rfl]
      rw [show mo none = .tuple #[.int .i64 0, .bool false] from rfl] at cX
      clear L1 L2 L3 L4 L5 L6 L7 cM cH cE hmx hmm hq
      unfold lv
      go_enter Tryd.func16, Tryd.ntmps16
      go_upto_region 1 with fail
      generalize w.alloc (.cells cc 50) = W at *
      go_wp2_with fail
      refine (cG W hbw).mono ?_
      rintro e w1 ⟨x, rfl, hx, hb1⟩
      obtain ⟨ao', c', rfl, hx9⟩ := hx
      rw [← HN.out]
      have hr := blk_keep hr hb1
      have hbw1 := hbw.trans (hb1.mono hbw.size)
      clear hx9 hb1 c2 c5 c16 c17 c20
      go_wp2_with (refine wpList_load_row rfl 50 _ rfl w.heap.size rfl 50 cc (0, 0) _ hr Tryd.underlying50 rfl hi ?_)
      refine (cX w1 hbw1).mono ?_
      rintro e w2 ⟨rfl, hb2⟩
      go_wp2_with fail
      go_ret2
      exact ⟨rfl, hbw1.trans (hb2.mono hbw1.size)⟩
    | some a =>
      obtain ⟨ha0, ha1⟩ := hmx a rfl
      obtain ⟨x1, f1⟩ : ∃ x1, a - d = x1 := ⟨_, rfl⟩
      have w1 : IntKind.i64.wrap (a - d) = x1 := by rw [IntKind.wrap_i64]; omega
      rw [show L = (Fr.cap (a - d) 2147483647, true) from L3.out a h1 h2 hq rfl]
      rw [show mo (some a) = .tuple #[.int .i64 a, .bool true] from rfl] at cX
      rw [f1]
      have cE5 := fun W' => cE x1 W'
      generalize Fr.cap x1 2147483647 = R at *
      clear L1 L2 L3 L4 L5 L6 L7 cM cH cE hmx hmm hq f1 ha0 ha1
      unfold lv
      go_enter Tryd.func16, Tryd.ntmps16
      go_upto_region 1 with fail
      generalize w.alloc (.cells cc 50) = W at *
      go_wp2_with fail
      refine (cG W hbw).mono ?_
      rintro e w1 ⟨x, rfl, hx, hb1⟩
      obtain ⟨ao', c', rfl, hx9⟩ := hx
      rw [← HN.out]
      have hr := blk_keep hr hb1
      have hbw1 := hbw.trans (hb1.mono hbw.size)
      have k20 := (hb1.cell (p := ⟨w.heap.size, 20, none⟩) (World.block_lt_of_cell? _ _ c20)).trans c20
      clear hx9 hb1 c2 c5 c16 c17 c20
      go_wp2_with (refine wpList_load_row rfl 50 _ rfl w.heap.size rfl 50 cc (0, 0) _ hr Tryd.underlying50 rfl hi ?_)
      refine (cX w1 hbw1).mono ?_
      rintro e w2 ⟨rfl, hb2⟩
      have hbw2 := hbw1.trans (hb2.mono hbw1.size)
      have k20' := (hb2.cell (p := ⟨w.heap.size, 20, none⟩) (World.block_lt_of_cell? _ _ k20)).trans k20
      clear k20 hb2 hr
      go_wp2_with fail
      refine (cE5 w2).mono ?_
      rintro e w3 ⟨rfl, rfl⟩
      go_wp2_with fail
      go_ret2
      exact ⟨rfl, hbw2⟩
  | [] =>
    have hn0 : ([] : List (List UInt8)).length = 0 := rfl
    match mm with
    | none =>
      rw [show L = (0, false) from L7.out h1 h2 rfl rfl]
      rw [show mo none = .tuple #[.int .i64 0, .bool false] from rfl] at cM
      clear L1 L2 L3 L4 L5 L6 L7 cX cE hmx hmm
      unfold lv
      go_enter Tryd.func16, Tryd.ntmps16
      go_upto_region 1 with fail
      generalize w.alloc (.cells cc 50) = W at *
      go_wp2_with fail
      refine (cG W hbw).mono ?_
      rintro e w1 ⟨x, rfl, hx, hb1⟩
      obtain ⟨ao', c', rfl, hx9⟩ := hx
      rw [hn0]
      have hr := blk_keep hr hb1
      have hbw1 := hbw.trans (hb1.mono hbw.size)
      clear hx9 hb1 c2 c5 c16 c17 c20
      go_wp2_with (refine wpList_load_row rfl 50 _ rfl w.heap.size rfl 50 cc (0, 0) _ hr Tryd.underlying50 rfl hi ?_)
      refine (cM w1 hbw1).mono ?_
      rintro e w2 ⟨rfl, hb2⟩
      go_wp2_with fail
      go_ret2
      exact ⟨rfl, hbw1.trans (hb2.mono hbw1.size)⟩
    | some a =>
      obtain ⟨ha0, ha1⟩ := hmm a rfl
      rw [show mo (some a) = .tuple #[.int .i64 a, .bool true] from rfl] at cM
      by_cases h3 : d < a
      · rw [show L = (0, false) from L6.out a h1 h2 rfl rfl (fun h => by have := h.2; omega)]
        clear L1 L2 L3 L4 L5 L6 L7 cX cE hmx hmm ha0 ha1
        unfold lv
        go_enter Tryd.func16, Tryd.ntmps16
        go_upto_region 1 with fail
        generalize w.alloc (.cells cc 50) = W at *
        go_wp2_with fail
        refine (cG W hbw).mono ?_
        rintro e w1 ⟨x, rfl, hx, hb1⟩
        obtain ⟨ao', c', rfl, hx9⟩ := hx
        rw [hn0]
        have hr := blk_keep hr hb1
        have hbw1 := hbw.trans (hb1.mono hbw.size)
        have k20 := (hb1.cell (p := ⟨w.heap.size, 20, none⟩) (World.block_lt_of_cell? _ _ c20)).trans c20
        clear hx9 hb1 c2 c5 c16 c17 c20
        go_wp2_with (refine wpList_load_row rfl 50 _ rfl w.heap.size rfl 50 cc (0, 0) _ hr Tryd.underlying50 rfl hi ?_)
        refine (cM w1 hbw1).mono ?_
        rintro e w2 ⟨rfl, hb2⟩
        have hbw2 := hbw1.trans (hb2.mono hbw1.size)
        have k20' := (hb2.cell (p := ⟨w.heap.size, 20, none⟩) (World.block_lt_of_cell? _ _ k20)).trans k20
        clear k20 hb2 hr
        go_wp2_with fail
        go_ret2
        exact ⟨rfl, hbw2⟩
      cases hh with
      | false =>
        rw [show L = (0, false) from L6.out a h1 h2 rfl rfl (fun h => by have := h.1; cases this)]
        clear L1 L2 L3 L4 L5 L6 L7 cX cE hmx hmm ha0 ha1
        unfold lv
        go_enter Tryd.func16, Tryd.ntmps16
        go_upto_region 1 with fail
        generalize w.alloc (.cells cc 50) = W at *
        go_wp2_with fail
        refine (cG W hbw).mono ?_
        rintro e w1 ⟨x, rfl, hx, hb1⟩
        obtain ⟨ao', c', rfl, hx9⟩ := hx
        rw [hn0]
        have hr := blk_keep hr hb1
        have hbw1 := hbw.trans (hb1.mono hbw.size)
        have k2 := (hb1.cell (p := ⟨w.heap.size, 2, none⟩) (World.block_lt_of_cell? _ _ c2)).trans c2
        have k20 := (hb1.cell (p := ⟨w.heap.size, 20, none⟩) (World.block_lt_of_cell? _ _ c20)).trans c20
        clear hx9 hb1 c2 c5 c16 c17 c20
        go_wp2_with (refine wpList_load_row rfl 50 _ rfl w.heap.size rfl 50 cc (0, 0) _ hr Tryd.underlying50 rfl hi ?_)
        refine (cM w1 hbw1).mono ?_
        rintro e w2 ⟨rfl, hb2⟩
        have hbw2 := hbw1.trans (hb2.mono hbw1.size)
        have k2' := (hb2.cell (p := ⟨w.heap.size, 2, none⟩) (World.block_lt_of_cell? _ _ k2)).trans k2
        have k20' := (hb2.cell (p := ⟨w.heap.size, 20, none⟩) (World.block_lt_of_cell? _ _ k20)).trans k20
        clear k2 k20 hb2 hr
        go_wp2_with fail
        refine (cH w2).mono ?_
        rintro e w3 ⟨rfl, rfl⟩
        go_wp2_with fail
        go_ret2
        exact ⟨rfl, hbw2⟩
      | true =>
        obtain ⟨x1, f1⟩ : ∃ x1, d - a = x1 := ⟨_, rfl⟩
        have v1 : IntKind.i64.wrap (d - a) = x1 := by rw [IntKind.wrap_i64]; omega
        obtain ⟨x2, f2⟩ : ∃ x2, x1 / 10 = x2 := ⟨_, rfl⟩
        have v2 : Int.tdiv x1 10 = x2 := by rw [Int.tdiv_eq_ediv_of_nonneg (by omega)]; exact f2
        have v3 : IntKind.i64.wrap x2 = x2 := by rw [IntKind.wrap_i64]; omega
        rw [show L = (Fr.cap x2 2147483647, false) from by rw [← f2, ← f1]; exact L5.out a h1 h2 rfl rfl rfl (by omega)]
        have cE5 := fun W' => cE x2 W'
        generalize Fr.cap x2 2147483647 = R at *
        clear L1 L2 L3 L4 L5 L6 L7 cX cE hmx hmm ha0 ha1 f1 f2
        unfold lv
        go_enter Tryd.func16, Tryd.ntmps16
        go_upto_region 1 with fail
        generalize w.alloc (.cells cc 50) = W at *
        go_wp2_with fail
        refine (cG W hbw).mono ?_
        rintro e w1 ⟨x, rfl, hx, hb1⟩
        obtain ⟨ao', c', rfl, hx9⟩ := hx
        rw [hn0]
        have hr := blk_keep hr hb1
        have hbw1 := hbw.trans (hb1.mono hbw.size)
        have k2 := (hb1.cell (p := ⟨w.heap.size, 2, none⟩) (World.block_lt_of_cell? _ _ c2)).trans c2
        have k20 := (hb1.cell (p := ⟨w.heap.size, 20, none⟩) (World.block_lt_of_cell? _ _ c20)).trans c20
        clear hx9 hb1 c2 c5 c16 c17 c20
        go_wp2_with (refine wpList_load_row rfl 50 _ rfl w.heap.size rfl 50 cc (0, 0) _ hr Tryd.underlying50 rfl hi ?_)
        refine (cM w1 hbw1).mono ?_
        rintro e w2 ⟨rfl, hb2⟩
        have hbw2 := hbw1.trans (hb2.mono hbw1.size)
        have k2' := (hb2.cell (p := ⟨w.heap.size, 2, none⟩) (World.block_lt_of_cell? _ _ k2)).trans k2
        have k20' := (hb2.cell (p := ⟨w.heap.size, 20, none⟩) (World.block_lt_of_cell? _ _ k20)).trans k20
        clear k2 k20 hb2 hr
        go_wp2_with fail
        refine (cH w2).mono ?_
        rintro e w3 ⟨rfl, rfl⟩
        go_wp2_with fail
        refine (cE5 w2).mono ?_
        rintro e w3 ⟨rfl, rfl⟩
        go_wp2_with fail
        go_ret2
        exact ⟨rfl, hbw2⟩
end Go.Proofs.YtajbeoignhnpjaaDoor
