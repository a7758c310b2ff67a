/- The statements of layer 7: ChunkBounds. -/
import Derived.Test.YtgnopcghobaoiaaDoorCk7
import Derived.Test.YtgnopcghobaoiaaDoorTail
import Derived.Deep.OwnRows
import Derived.Deep.RegionHeld3
import Derived.Test.YtgnopcghobaoiaaDoorHeld
namespace Go.Proofs.YtgnopcghobaoiaaDoor
open Go.RowKit

theorem tmod_bounds (a : Int) (n : Nat) (hn : 1 ≤ n) : ∃ q, a.tmod n = q ∧ -(n : Int) < q ∧ q < n := by
  refine ⟨_, rfl, ?_, ?_⟩
  · have := Int.lt_tmod_of_pos a (b := n) (by omega); omega
  · exact Int.tmod_lt_of_pos a (by omega)
theorem cut_at (a : Int) (n : Nat) (hn : 1 ≤ n) (hn2 : n ≤ 1000000) : ∃ (q : Int) (k : Nat), a.tmod n = q ∧ IntKind.i64.wrap q = q ∧ IntKind.i64.wrap (q + n) = q + n ∧ (q + (n : Int)).tmod n = k ∧ IntKind.i64.wrap (k : Int) = k ∧ k < n := by
  obtain ⟨q, h1, h2, h3⟩ := tmod_bounds a n hn
  refine ⟨q, ((q + (n : Int)) % n).toNat, h1, ?_, ?_, ?_, ?_, ?_⟩
  · rw [IntKind.wrap_i64]; omega
  · rw [IntKind.wrap_i64]; omega
  · rw [Int.tmod_eq_emod_of_nonneg (by omega)]
    have := Int.emod_nonneg (q + (n : Int)) (b := n) (by omega)
    omega
  · rw [IntKind.wrap_i64]
    have h4 := Int.emod_nonneg (q + (n : Int)) (b := n) (by omega)
    have h5 := Int.emod_lt_of_pos (q + (n : Int)) (b := n) (by omega)
    omega
  · have h4 := Int.emod_nonneg (q + (n : Int)) (b := n) (by omega)
    have h5 := Int.emod_lt_of_pos (q + (n : Int)) (b := n) (by omega)
    omega

section
variable {P : Program} {ops : Array Oper} {Q : Exit → Act → World → Prop}
/-- A call that may make memory. -/
theorem wpOp_enter {i : Nat} {o : Oper} {a : Act} {w : World} {J : Act → World → Prop} {f : FuncId} {args : Array Value} (ho : ops[i]? = some o) (hg : o.guard = none)
    (hr : (execOp a.eval o).run P w = .ok (.enter f args) w) (hc : Calls P f args w fun e w' => ∃ v, e = .returned v ∧ J (a.put o.dst v) w') : wpOp P ops Q i J a w := by
  refine wpOp_plain ho hg ?_
  unfold Oper.wp
  rw [hr]
  exact hc.mono fun e w' ⟨v, he, hJ⟩ => by subst he; exact hJ
end
/-- A text grows. -/
theorem grow_text (p q : List UInt8) (x : List UInt8) (h : q = p ++ x) : str p ++ str x = str q := by
  refine str_eq ?_
  rw [app_two, str_list, str_list, h]
theorem enc3_len (p q r : List UInt8) (hp : p.length ≤ 1048576) (hq : q.length ≤ 1048576) (hr : r.length ≤ 1048576) : (Ck.encode [p, q, r]).length ≤ p.length + q.length + r.length + 35 := by
  have hc : ∀ x : List UInt8, x.length ≤ 1048576 → (Ck.chunkOf x).length ≤ x.length + 10 := fun x hx => by
    by_cases h : x = []
    · subst h; decide
    · rw [chunk_len x h]
      have := Ck.hex_len8 (n := x.length) hx
      omega
  have h1 := hc p hp
  have h2 := hc q hq
  have h3 := hc r hr
  unfold Ck.encode
  rw [List.length_append]
  simp only [List.flatMap_cons, List.flatMap_nil, List.append_nil, List.length_append]
  show _ + 5 ≤ _
  omega
theorem bound_e (hf : List UInt8) (hfl : hf.length = 524288) (k A2 A3 : Nat) (hk : k ≤ 4) (h2 : A2 = 524286 + min k 2) (h3 : A3 = k - 2) : (Ck.decode (Ck.encode [hf, hf.take A2, hf.take A3])).2.2 = if k ≤ 2 then 0 else 12 := by
  have l2 : (hf.take A2).length = A2 := by rw [List.length_take, hfl]; omega
  have l3 : (hf.take A3).length = A3 := by rw [List.length_take, hfl]; omega
  by_cases h : k ≤ 2
  · rw [if_pos h]
    have := Ck.decode_three (p := hf) (q := hf.take A2) (r := hf.take A3) (by rw [l2, l3, hfl]; omega) []
    rwa [List.append_nil] at this
  · rw [if_neg h]
    refine Ck.decode_over (by rw [l2, hfl]; omega) (fun e => ?_) (by rw [l3]; omega) (by rw [l2, l3, hfl]; omega)
    have := congrArg List.length e
    rw [l3] at this
    simp at this; omega
theorem bound_f (k : Nat) : (Ck.decode (Ck.longLine (250 + k))).2.2 = if k ≤ 2 then 0 else 12 := by
  by_cases h : k ≤ 2
  · rw [if_pos h, Ck.decode_line _ (by omega)]
  · rw [if_neg h, Ck.decode_long _ (by omega)]
theorem bound_g (n : Nat) : (Ck.decode (Ck.manyLines n)).2.2 = if n ≤ 128 then 0 else 13 := by
  by_cases h : n ≤ 128
  · rw [if_pos h, Ck.decode_fields _ h]
  · rw [if_neg h, Ck.decode_many _ (by omega)]
theorem ab_len (n : Nat) : (Ck.abLines n).length = 6 * n := by
  induction n with
  | zero => rfl
  | succ n ih => rw [Ck.abLines_snoc, List.length_append, ih]; simp; omega

set_option maxHeartbeats 6400000 in
set_option maxRecDepth 1000000 in
theorem kbounds_w {Env : World → Prop} (P : Prog7 Env) (a d : Int) (w : World) (hE : Env w) :
    Calls Tryd.prog 6 #[.int .i64 a, .int .i64 d] w fun e w' => e = .returned (.bool true) ∧ Below w.heap.size w w' := by
  have HE := Lib.hid hE
  have HP := Lib.hid P
  have cA := kawake_w P w hE
  obtain ⟨q, k, q1, q2, q3, q4, q5, q6⟩ := cut_at a 5 (by decide) (by decide)
  obtain ⟨p, j, p1, p2, p3, p4, p5, p6⟩ := cut_at d 8 (by decide) (by decide)
  have q1 : a.tmod 5 = q := q1
  have q3 : IntKind.i64.wrap (q + 5) = q + 5 := q3
  have q4 : (q + 5).tmod 5 = (k : Int) := q4
  have p1 : d.tmod 8 = p := p1
  have p3 : IntKind.i64.wrap (p + 8) = p + 8 := p3
  have p4 : (p + 8).tmod 8 = (j : Int) := p4
  obtain ⟨n, hn⟩ : ∃ n, n = 125 + j := ⟨_, rfl⟩
  have an : (125 : Int) + (j : Int) = (n : Int) := by omega
  have bn : IntKind.i64.wrap ((125 : Int) + (j : Int)) = (n : Int) := by rw [IntKind.wrap_i64]; omega
  have cn : IntKind.i64.wrap (n : Int) = (n : Int) := by rw [IntKind.wrap_i64]; omega
  have hn9 : n ≤ 132 := by omega
  obtain ⟨A2, hA2⟩ : ∃ A2, A2 = 524286 + min k 2 := ⟨_, rfl⟩
  obtain ⟨A3, hA3⟩ : ∃ A3, A3 = k - 2 := ⟨_, rfl⟩
  obtain ⟨x, hx⟩ : ∃ x, x = 250 + k := ⟨_, rfl⟩
  have ax : (250 : Int) + (k : Int) = (x : Int) := by omega
  have bx : IntKind.i64.wrap ((250 : Int) + (k : Int)) = (x : Int) := by rw [IntKind.wrap_i64]; omega
  have cx : IntKind.i64.wrap (x : Int) = (x : Int) := by rw [IntKind.wrap_i64]; omega
  obtain ⟨m, hm⟩ : ∃ m : Nat, m = min k 2 := ⟨_, rfl⟩
  have am : min (k : Int) 2 = (m : Int) := by omega
  have am2 : (524286 : Int) + (m : Int) = (A2 : Int) := by omega
  have bm2 : IntKind.i64.wrap ((524286 : Int) + (m : Int)) = (A2 : Int) := by rw [IntKind.wrap_i64]; omega
  have cA2 : IntKind.i64.wrap (A2 : Int) = (A2 : Int) := by rw [IntKind.wrap_i64]; omega
  have bw : IntKind.i64.wrap (524286 : Int) = 524286 := by rw [IntKind.wrap_i64]; omega
  have bk : IntKind.i64.wrap ((k : Int) - 2) = (k : Int) - 2 := by rw [IntKind.wrap_i64]; omega
  have ak : max 0 ((k : Int) - 2) = (A3 : Int) := by omega
  have iA2 : (0 : Int) ≤ A2 := by omega
  have iA3 : (0 : Int) ≤ A3 := by omega
  have nA2 : A2 ≤ 524288 := by omega
  have nA3 : A3 ≤ 524288 := by omega
  have HEe := Lib.hid (fun (hf : List UInt8) (hfl : hf.length = 524288) => bound_e hf hfl k A2 A3 (by omega) hA2 hA3)
  have HEf := Lib.hid (bound_f k)
  have HEg := Lib.hid (bound_g n)
  have hk4 : k ≤ 4 := by omega
  rw [← hx] at HEf
  have hx9 : x ≤ 254 := by omega
  have HK := Lib.hid hk4
  have HA2 := Lib.hid hA2
  have HA3 := Lib.hid hA3
  have HX := Lib.hid hx
  clear hn hA2 hA3 hx hm q6 p6 P hE hk4
  have hmk : ∀ W : World, (Instr.makeSlice 22 (.int .i64 524288) (.int .i64 524288)).run Tryd.prog W = .ok (.slice (some ⟨W.heap.size, 0, none⟩) 524288 524288) (W.alloc (.cells (madeCells #[.int .u8 0] 524288) 5)) := fun W => run_make_row' (P := Tryd.prog) 22 5 (.int .u8 0) 1 Tryd.underlying22 bytes_info rfl .i64 .i64 524288 (by omega) (by omega) W
  go_enter Tryd.func6, Tryd.ntmps6
  go_wp2_with fail
  refine cA.mono ?_
  rintro e0 w1 ⟨rfl, hb1⟩
  clear cA
  go_upto_region 4 with fail
  clear q1 q2 q3 q4 q5 p1 p2 p3 p4 p5 an bn
  obtain ⟨hf, hfl, hbin1⟩ : ∃ hf : List UInt8, hf.length = 524288 ∧ BIn (w1.alloc (.cells (madeCells #[.int .u8 0] 524288) 5)) (.slice (some ⟨w1.heap.size, 0, none⟩) 524288 524288) hf := ⟨List.replicate 524288 0, List.length_replicate, octets_made w1 524288 (by omega)⟩
  have hb2 := hb1.alloc hb1.size (.cells (madeCells #[.int .u8 0] 524288) 5)
  go_upto_region 5 with fail
  generalize w1.alloc (.cells (madeCells #[.int .u8 0] 524288) 5) = w2 at hbin1 hb2 ⊢
  generalize w1.heap.size = g at hbin1 ⊢
  clear hmk
  obtain ⟨ls, hls⟩ : ∃ ls, ls = [hf, hf.take A2, hf.take A3] := ⟨_, rfl⟩
  have hbs := bs_lit w2 #[.slice (some ⟨g, 0, none⟩) 524288 524288, .slice (some ⟨g, 0, none⟩) A2 524288, .slice (some ⟨g, 0, none⟩) A3 524288] ls 3 (by rw [hls]; rfl) (by decide) (fun j hj => by
    subst hls
    match j, hj with
    | 0, _ => exact ⟨_, rfl, hbin1, nil_ok _ _ _⟩
    | 1, _ => exact ⟨_, rfl, hbin1.cut A2 (by omega), nil_ok _ _ _⟩
    | 2, _ => exact ⟨_, rfl, hbin1.cut A3 (by omega), nil_ok _ _ _⟩)
  have hel : (Ck.encode ls).length ≤ 2000000 := by
    have := enc3_len hf (hf.take A2) (hf.take A3) (by omega) (by rw [List.length_take]; omega) (by rw [List.length_take]; omega)
    rw [List.length_take, List.length_take, hfl, ← hls] at this
    omega
  have HE1 := HEe.out hf hfl
  rw [← hls] at HE1
  have HE1 := Lib.hid HE1
  have cE := fun (W : World) (hb : Below w2.heap.size w2 W) => HP.out.encode (.slice (some ⟨W.heap.size, 0, none⟩) 3 3) ls (W.alloc (.cells #[.slice (some ⟨g, 0, none⟩) 524288 524288, .slice (some ⟨g, 0, none⟩) A2 524288, .slice (some ⟨g, 0, none⟩) A3 524288] 22)) hel (by
    refine bs_lit W _ ls 3 (by rw [hls]; rfl) (by decide) (fun j hj => ?_)
    subst hls
    match j, hj with
    | 0, _ => exact ⟨_, rfl, hbin1.later hb, nil_ok _ _ _⟩
    | 1, _ => exact ⟨_, rfl, (hbin1.cut A2 (by omega)).later hb, nil_ok _ _ _⟩
    | 2, _ => exact ⟨_, rfl, (hbin1.cut A3 (by omega)).later hb, nil_ok _ _ _⟩) (HP.out.later HE.out ((hb2.trans (hb.mono hb2.size)).alloc (hb2.trans (hb.mono hb2.size)).size _))
  obtain ⟨en, hen⟩ : ∃ en, en = Ck.encode ls := ⟨_, rfl⟩
  rw [← hen] at HE1 cE hel
  have cD := fun (u : Value) (W : World) (hu : BIn W u en) (hb : Below w.heap.size w W) => HP.out.decode u en W hel hu (HP.out.later HE.out hb)
  obtain ⟨⟨x1, n1, e1⟩, hq1⟩ : ∃ y, Ck.decode en = y := ⟨_, rfl⟩
  rw [hq1] at cD HE1
  simp only [] at cD HE1
  have HB2 := Lib.hid hb2
  clear hbs hls hbin1 hfl hen hq1 HEe hb2 hel nA2 nA3
  have hdr : Below w2.heap.size w2 w2.drew := (Below.refl _ w2).drew
  have c1 := cE w2.drew hdr
  have hb6 := (HB2.out.trans (hdr.mono HB2.out.size)).alloc (HB2.out.trans (hdr.mono HB2.out.size)).size (.cells #[.slice (some ⟨g, 0, none⟩) 524288 524288, .slice (some ⟨g, 0, none⟩) A2 524288, .slice (some ⟨g, 0, none⟩) A3 524288] 22)
  have HB6 := Lib.hid hb6
  clear cE hdr hb6
  go_cut [8, 9, 10] (fun _ _ x10 wx => x10 = .int .i64 e1 ∧ Below w.heap.size w wx)
  case first =>
    refine wp_region_noPanic ?_
    refine wp_region_held (S := fun _ => True) (by kernel_rfl) ?_
    clear am am2 bm2 cA2 bw bk ak iA2 iA3
    have hk5 : k = 0 ∨ k = 1 ∨ k = 2 ∨ k = 3 ∨ k = 4 := by have := HK.out; omega
    rcases hk5 with rfl | rfl | rfl | rfl | rfl
    · obtain rfl : A2 = 524286 := by have := HA2.out; omega
      obtain rfl : A3 = 0 := by have := HA3.out; omega
      clear HA2 HA3 HK
      refine held_of_takes (fuel := 10) (by kernel_rfl) (fun _ _ _ _ _ h => h) trivial [0, 1, 2, 3, 4, 5, 6, 7, 8, 9, 10, 11, 12, 13] _ _ (by kernel_rfl) ?_
      refine Takes.val (.slice (some ⟨g, 0, none⟩) 524288 524288) rfl rfl (fun _ _ => by kernel_rfl) ?_
      refine Takes.val (.slice (some ⟨g, 0, none⟩) 524288 524288) rfl rfl (fun _ _ => by kernel_rfl) ?_
      refine Takes.val (.slice (some ⟨g, 0, none⟩) 524288 524288) rfl rfl (fun _ _ => by kernel_rfl) ?_
      refine Takes.val (.int .i64 (524288)) rfl rfl (fun _ _ => by kernel_rfl) ?_
      refine Takes.val (.int .i64 (524286)) rfl rfl (fun _ _ => by kernel_rfl) ?_
      refine Takes.val (.int .i64 (0)) rfl rfl (fun _ _ => by kernel_rfl) ?_
      refine Takes.val (.int .i64 (0)) rfl rfl (fun _ _ => by kernel_rfl) ?_
      refine Takes.val (.int .i64 (524286)) rfl rfl (fun _ _ => by kernel_rfl) ?_
      refine Takes.val (.slice (some ⟨g, 0, none⟩) 524286 524288) rfl rfl (fun _ _ => by kernel_rfl) ?_
      refine Takes.val (.slice (some ⟨g, 0, none⟩) 524288 524288) rfl rfl (fun _ _ => by kernel_rfl) ?_
      refine Takes.val (.int .i64 (0)) rfl rfl (fun _ _ => by kernel_rfl) ?_
      refine Takes.val (.int .i64 (-2)) rfl rfl (fun _ _ => by kernel_rfl) ?_
      refine Takes.val (.int .i64 (0)) rfl rfl (fun _ _ => by kernel_rfl) ?_
      refine Takes.val (.slice (some ⟨g, 0, none⟩) 0 524288) rfl rfl (fun _ _ => by kernel_rfl) ?_
      refine wpAnyH_all (rs := [14]) (by kernel_rfl) (by simp) (fun i hi => ?_)
      obtain rfl := List.mem_singleton.1 hi
      refine wpOp_make (v := .slice (some ⟨w2.drew.heap.size, 0, none⟩) 3 3) (w' := w2.drew.alloc (.cells #[.slice (some ⟨g, 0, none⟩) 524288 524288, .slice (some ⟨g, 0, none⟩) 524286 524288, .slice (some ⟨g, 0, none⟩) 0 524288] 22)) rfl rfl (by kernel_rfl) ⟨trivial, ?_⟩
      refine wpAnyH_all (rs := [15]) (by kernel_rfl) (by simp) (fun i hi => ?_)
      obtain rfl := List.mem_singleton.1 hi
      refine wpOp_enter (f := 14) (args := #[.slice (some ⟨w2.drew.heap.size, 0, none⟩) 3 3]) rfl rfl (by kernel_rfl) (c1.mono ?_)
      rintro e w7 ⟨⟨u7, rfl, hx7, hn7⟩, hb7⟩
      have hB7 := HB6.out.trans (hb7.mono HB6.out.size)
      have c2 := cD u7 w7 hx7 hB7
      refine ⟨u7, rfl, trivial, ?_⟩
      refine wpAnyH_all (rs := [16]) (by kernel_rfl) (by simp) (fun i hi => ?_)
      obtain rfl := List.mem_singleton.1 hi
      refine wpOp_enter (f := 9) (args := #[u7]) rfl rfl (by kernel_rfl) (c2.mono ?_)
      rintro e w8 ⟨⟨u8', rfl, hx8, hn8⟩, hb8⟩
      have hB8 := hB7.trans (hb8.mono hB7.size)
      refine ⟨_, rfl, trivial, ?_⟩
      refine held_of_takes (fuel := 0) (by kernel_rfl) (fun _ _ _ _ _ h => h) trivial [17, 18, 19, 20, 21, 22, 23] _ _ (by kernel_rfl) ?_
      refine Takes.val (.tuple #[u8', .int .i64 n1, .int .i64 e1]) rfl rfl (fun _ _ => by kernel_rfl) ?_
      refine Takes.val u8' rfl rfl (fun _ _ => by kernel_rfl) ?_
      refine Takes.val (.int .i64 n1) rfl rfl (fun _ _ => by kernel_rfl) ?_
      refine Takes.val (.int .i64 e1) rfl rfl (fun _ _ => by kernel_rfl) ?_
      refine Takes.val u8' rfl rfl (fun _ _ => by kernel_rfl) ?_
      refine Takes.val (.int .i64 n1) rfl rfl (fun _ _ => by kernel_rfl) ?_
      refine Takes.val (.int .i64 e1) rfl rfl (fun _ _ => by kernel_rfl) ?_
      refine wpAnyH_done (P := Tryd.prog) (S := fun _ => True) (by kernel_rfl) ?_ 0
      refine NoPanic.normal ?_
      go_simp
      go_wp2_with fail
      go_meet
      case rel => exact ⟨rfl, hB8⟩
    · obtain rfl : A2 = 524287 := by have := HA2.out; omega
      obtain rfl : A3 = 0 := by have := HA3.out; omega
      clear HA2 HA3 HK
      refine held_of_takes (fuel := 10) (by kernel_rfl) (fun _ _ _ _ _ h => h) trivial [0, 1, 2, 3, 4, 5, 6, 7, 8, 9, 10, 11, 12, 13] _ _ (by kernel_rfl) ?_
      refine Takes.val (.slice (some ⟨g, 0, none⟩) 524288 524288) rfl rfl (fun _ _ => by kernel_rfl) ?_
      refine Takes.val (.slice (some ⟨g, 0, none⟩) 524288 524288) rfl rfl (fun _ _ => by kernel_rfl) ?_
      refine Takes.val (.slice (some ⟨g, 0, none⟩) 524288 524288) rfl rfl (fun _ _ => by kernel_rfl) ?_
      refine Takes.val (.int .i64 (524288)) rfl rfl (fun _ _ => by kernel_rfl) ?_
      refine Takes.val (.int .i64 (524286)) rfl rfl (fun _ _ => by kernel_rfl) ?_
      refine Takes.val (.int .i64 (1)) rfl rfl (fun _ _ => by kernel_rfl) ?_
      refine Takes.val (.int .i64 (1)) rfl rfl (fun _ _ => by kernel_rfl) ?_
      refine Takes.val (.int .i64 (524287)) rfl rfl (fun _ _ => by kernel_rfl) ?_
      refine Takes.val (.slice (some ⟨g, 0, none⟩) 524287 524288) rfl rfl (fun _ _ => by kernel_rfl) ?_
      refine Takes.val (.slice (some ⟨g, 0, none⟩) 524288 524288) rfl rfl (fun _ _ => by kernel_rfl) ?_
      refine Takes.val (.int .i64 (1)) rfl rfl (fun _ _ => by kernel_rfl) ?_
      refine Takes.val (.int .i64 (-1)) rfl rfl (fun _ _ => by kernel_rfl) ?_
      refine Takes.val (.int .i64 (0)) rfl rfl (fun _ _ => by kernel_rfl) ?_
      refine Takes.val (.slice (some ⟨g, 0, none⟩) 0 524288) rfl rfl (fun _ _ => by kernel_rfl) ?_
      refine wpAnyH_all (rs := [14]) (by kernel_rfl) (by simp) (fun i hi => ?_)
      obtain rfl := List.mem_singleton.1 hi
      refine wpOp_make (v := .slice (some ⟨w2.drew.heap.size, 0, none⟩) 3 3) (w' := w2.drew.alloc (.cells #[.slice (some ⟨g, 0, none⟩) 524288 524288, .slice (some ⟨g, 0, none⟩) 524287 524288, .slice (some ⟨g, 0, none⟩) 0 524288] 22)) rfl rfl (by kernel_rfl) ⟨trivial, ?_⟩
      refine wpAnyH_all (rs := [15]) (by kernel_rfl) (by simp) (fun i hi => ?_)
      obtain rfl := List.mem_singleton.1 hi
      refine wpOp_enter (f := 14) (args := #[.slice (some ⟨w2.drew.heap.size, 0, none⟩) 3 3]) rfl rfl (by kernel_rfl) (c1.mono ?_)
      rintro e w7 ⟨⟨u7, rfl, hx7, hn7⟩, hb7⟩
      have hB7 := HB6.out.trans (hb7.mono HB6.out.size)
      have c2 := cD u7 w7 hx7 hB7
      refine ⟨u7, rfl, trivial, ?_⟩
      refine wpAnyH_all (rs := [16]) (by kernel_rfl) (by simp) (fun i hi => ?_)
      obtain rfl := List.mem_singleton.1 hi
      refine wpOp_enter (f := 9) (args := #[u7]) rfl rfl (by kernel_rfl) (c2.mono ?_)
      rintro e w8 ⟨⟨u8', rfl, hx8, hn8⟩, hb8⟩
      have hB8 := hB7.trans (hb8.mono hB7.size)
      refine ⟨_, rfl, trivial, ?_⟩
      refine held_of_takes (fuel := 0) (by kernel_rfl) (fun _ _ _ _ _ h => h) trivial [17, 18, 19, 20, 21, 22, 23] _ _ (by kernel_rfl) ?_
      refine Takes.val (.tuple #[u8', .int .i64 n1, .int .i64 e1]) rfl rfl (fun _ _ => by kernel_rfl) ?_
      refine Takes.val u8' rfl rfl (fun _ _ => by kernel_rfl) ?_
      refine Takes.val (.int .i64 n1) rfl rfl (fun _ _ => by kernel_rfl) ?_
      refine Takes.val (.int .i64 e1) rfl rfl (fun _ _ => by kernel_rfl) ?_
      refine Takes.val u8' rfl rfl (fun _ _ => by kernel_rfl) ?_
      refine Takes.val (.int .i64 n1) rfl rfl (fun _ _ => by kernel_rfl) ?_
      refine Takes.val (.int .i64 e1) rfl rfl (fun _ _ => by kernel_rfl) ?_
      refine wpAnyH_done (P := Tryd.prog) (S := fun _ => True) (by kernel_rfl) ?_ 0
      refine NoPanic.normal ?_
      go_simp
      go_wp2_with fail
      go_meet
      case rel => exact ⟨rfl, hB8⟩
    · obtain rfl : A2 = 524288 := by have := HA2.out; omega
      obtain rfl : A3 = 0 := by have := HA3.out; omega
      clear HA2 HA3 HK
      refine held_of_takes (fuel := 10) (by kernel_rfl) (fun _ _ _ _ _ h => h) trivial [0, 1, 2, 3, 4, 5, 6, 7, 8, 9, 10, 11, 12, 13] _ _ (by kernel_rfl) ?_
      refine Takes.val (.slice (some ⟨g, 0, none⟩) 524288 524288) rfl rfl (fun _ _ => by kernel_rfl) ?_
      refine Takes.val (.slice (some ⟨g, 0, none⟩) 524288 524288) rfl rfl (fun _ _ => by kernel_rfl) ?_
      refine Takes.val (.slice (some ⟨g, 0, none⟩) 524288 524288) rfl rfl (fun _ _ => by kernel_rfl) ?_
      refine Takes.val (.int .i64 (524288)) rfl rfl (fun _ _ => by kernel_rfl) ?_
      refine Takes.val (.int .i64 (524286)) rfl rfl (fun _ _ => by kernel_rfl) ?_
      refine Takes.val (.int .i64 (2)) rfl rfl (fun _ _ => by kernel_rfl) ?_
      refine Takes.val (.int .i64 (2)) rfl rfl (fun _ _ => by kernel_rfl) ?_
      refine Takes.val (.int .i64 (524288)) rfl rfl (fun _ _ => by kernel_rfl) ?_
      refine Takes.val (.slice (some ⟨g, 0, none⟩) 524288 524288) rfl rfl (fun _ _ => by kernel_rfl) ?_
      refine Takes.val (.slice (some ⟨g, 0, none⟩) 524288 524288) rfl rfl (fun _ _ => by kernel_rfl) ?_
      refine Takes.val (.int .i64 (2)) rfl rfl (fun _ _ => by kernel_rfl) ?_
      refine Takes.val (.int .i64 (0)) rfl rfl (fun _ _ => by kernel_rfl) ?_
      refine Takes.val (.int .i64 (0)) rfl rfl (fun _ _ => by kernel_rfl) ?_
      refine Takes.val (.slice (some ⟨g, 0, none⟩) 0 524288) rfl rfl (fun _ _ => by kernel_rfl) ?_
      refine wpAnyH_all (rs := [14]) (by kernel_rfl) (by simp) (fun i hi => ?_)
      obtain rfl := List.mem_singleton.1 hi
      refine wpOp_make (v := .slice (some ⟨w2.drew.heap.size, 0, none⟩) 3 3) (w' := w2.drew.alloc (.cells #[.slice (some ⟨g, 0, none⟩) 524288 524288, .slice (some ⟨g, 0, none⟩) 524288 524288, .slice (some ⟨g, 0, none⟩) 0 524288] 22)) rfl rfl (by kernel_rfl) ⟨trivial, ?_⟩
      refine wpAnyH_all (rs := [15]) (by kernel_rfl) (by simp) (fun i hi => ?_)
      obtain rfl := List.mem_singleton.1 hi
      refine wpOp_enter (f := 14) (args := #[.slice (some ⟨w2.drew.heap.size, 0, none⟩) 3 3]) rfl rfl (by kernel_rfl) (c1.mono ?_)
      rintro e w7 ⟨⟨u7, rfl, hx7, hn7⟩, hb7⟩
      have hB7 := HB6.out.trans (hb7.mono HB6.out.size)
      have c2 := cD u7 w7 hx7 hB7
      refine ⟨u7, rfl, trivial, ?_⟩
      refine wpAnyH_all (rs := [16]) (by kernel_rfl) (by simp) (fun i hi => ?_)
      obtain rfl := List.mem_singleton.1 hi
      refine wpOp_enter (f := 9) (args := #[u7]) rfl rfl (by kernel_rfl) (c2.mono ?_)
      rintro e w8 ⟨⟨u8', rfl, hx8, hn8⟩, hb8⟩
      have hB8 := hB7.trans (hb8.mono hB7.size)
      refine ⟨_, rfl, trivial, ?_⟩
      refine held_of_takes (fuel := 0) (by kernel_rfl) (fun _ _ _ _ _ h => h) trivial [17, 18, 19, 20, 21, 22, 23] _ _ (by kernel_rfl) ?_
      refine Takes.val (.tuple #[u8', .int .i64 n1, .int .i64 e1]) rfl rfl (fun _ _ => by kernel_rfl) ?_
      refine Takes.val u8' rfl rfl (fun _ _ => by kernel_rfl) ?_
      refine Takes.val (.int .i64 n1) rfl rfl (fun _ _ => by kernel_rfl) ?_
      refine Takes.val (.int .i64 e1) rfl rfl (fun _ _ => by kernel_rfl) ?_
      refine Takes.val u8' rfl rfl (fun _ _ => by kernel_rfl) ?_
      refine Takes.val (.int .i64 n1) rfl rfl (fun _ _ => by kernel_rfl) ?_
      refine Takes.val (.int .i64 e1) rfl rfl (fun _ _ => by kernel_rfl) ?_
      refine wpAnyH_done (P := Tryd.prog) (S := fun _ => True) (by kernel_rfl) ?_ 0
      refine NoPanic.normal ?_
      go_simp
      go_wp2_with fail
      go_meet
      case rel => exact ⟨rfl, hB8⟩
    · obtain rfl : A2 = 524288 := by have := HA2.out; omega
      obtain rfl : A3 = 1 := by have := HA3.out; omega
      clear HA2 HA3 HK
      refine held_of_takes (fuel := 10) (by kernel_rfl) (fun _ _ _ _ _ h => h) trivial [0, 1, 2, 3, 4, 5, 6, 7, 8, 9, 10, 11, 12, 13] _ _ (by kernel_rfl) ?_
      refine Takes.val (.slice (some ⟨g, 0, none⟩) 524288 524288) rfl rfl (fun _ _ => by kernel_rfl) ?_
      refine Takes.val (.slice (some ⟨g, 0, none⟩) 524288 524288) rfl rfl (fun _ _ => by kernel_rfl) ?_
      refine Takes.val (.slice (some ⟨g, 0, none⟩) 524288 524288) rfl rfl (fun _ _ => by kernel_rfl) ?_
      refine Takes.val (.int .i64 (524288)) rfl rfl (fun _ _ => by kernel_rfl) ?_
      refine Takes.val (.int .i64 (524286)) rfl rfl (fun _ _ => by kernel_rfl) ?_
      refine Takes.val (.int .i64 (3)) rfl rfl (fun _ _ => by kernel_rfl) ?_
      refine Takes.val (.int .i64 (2)) rfl rfl (fun _ _ => by kernel_rfl) ?_
      refine Takes.val (.int .i64 (524288)) rfl rfl (fun _ _ => by kernel_rfl) ?_
      refine Takes.val (.slice (some ⟨g, 0, none⟩) 524288 524288) rfl rfl (fun _ _ => by kernel_rfl) ?_
      refine Takes.val (.slice (some ⟨g, 0, none⟩) 524288 524288) rfl rfl (fun _ _ => by kernel_rfl) ?_
      refine Takes.val (.int .i64 (3)) rfl rfl (fun _ _ => by kernel_rfl) ?_
      refine Takes.val (.int .i64 (1)) rfl rfl (fun _ _ => by kernel_rfl) ?_
      refine Takes.val (.int .i64 (1)) rfl rfl (fun _ _ => by kernel_rfl) ?_
      refine Takes.val (.slice (some ⟨g, 0, none⟩) 1 524288) rfl rfl (fun _ _ => by kernel_rfl) ?_
      refine wpAnyH_all (rs := [14]) (by kernel_rfl) (by simp) (fun i hi => ?_)
      obtain rfl := List.mem_singleton.1 hi
      refine wpOp_make (v := .slice (some ⟨w2.drew.heap.size, 0, none⟩) 3 3) (w' := w2.drew.alloc (.cells #[.slice (some ⟨g, 0, none⟩) 524288 524288, .slice (some ⟨g, 0, none⟩) 524288 524288, .slice (some ⟨g, 0, none⟩) 1 524288] 22)) rfl rfl (by kernel_rfl) ⟨trivial, ?_⟩
      refine wpAnyH_all (rs := [15]) (by kernel_rfl) (by simp) (fun i hi => ?_)
      obtain rfl := List.mem_singleton.1 hi
      refine wpOp_enter (f := 14) (args := #[.slice (some ⟨w2.drew.heap.size, 0, none⟩) 3 3]) rfl rfl (by kernel_rfl) (c1.mono ?_)
      rintro e w7 ⟨⟨u7, rfl, hx7, hn7⟩, hb7⟩
      have hB7 := HB6.out.trans (hb7.mono HB6.out.size)
      have c2 := cD u7 w7 hx7 hB7
      refine ⟨u7, rfl, trivial, ?_⟩
      refine wpAnyH_all (rs := [16]) (by kernel_rfl) (by simp) (fun i hi => ?_)
      obtain rfl := List.mem_singleton.1 hi
      refine wpOp_enter (f := 9) (args := #[u7]) rfl rfl (by kernel_rfl) (c2.mono ?_)
      rintro e w8 ⟨⟨u8', rfl, hx8, hn8⟩, hb8⟩
      have hB8 := hB7.trans (hb8.mono hB7.size)
      refine ⟨_, rfl, trivial, ?_⟩
      refine held_of_takes (fuel := 0) (by kernel_rfl) (fun _ _ _ _ _ h => h) trivial [17, 18, 19, 20, 21, 22, 23] _ _ (by kernel_rfl) ?_
      refine Takes.val (.tuple #[u8', .int .i64 n1, .int .i64 e1]) rfl rfl (fun _ _ => by kernel_rfl) ?_
      refine Takes.val u8' rfl rfl (fun _ _ => by kernel_rfl) ?_
      refine Takes.val (.int .i64 n1) rfl rfl (fun _ _ => by kernel_rfl) ?_
      refine Takes.val (.int .i64 e1) rfl rfl (fun _ _ => by kernel_rfl) ?_
      refine Takes.val u8' rfl rfl (fun _ _ => by kernel_rfl) ?_
      refine Takes.val (.int .i64 n1) rfl rfl (fun _ _ => by kernel_rfl) ?_
      refine Takes.val (.int .i64 e1) rfl rfl (fun _ _ => by kernel_rfl) ?_
      refine wpAnyH_done (P := Tryd.prog) (S := fun _ => True) (by kernel_rfl) ?_ 0
      refine NoPanic.normal ?_
      go_simp
      go_wp2_with fail
      go_meet
      case rel => exact ⟨rfl, hB8⟩
    · obtain rfl : A2 = 524288 := by have := HA2.out; omega
      obtain rfl : A3 = 2 := by have := HA3.out; omega
      clear HA2 HA3 HK
      refine held_of_takes (fuel := 10) (by kernel_rfl) (fun _ _ _ _ _ h => h) trivial [0, 1, 2, 3, 4, 5, 6, 7, 8, 9, 10, 11, 12, 13] _ _ (by kernel_rfl) ?_
      refine Takes.val (.slice (some ⟨g, 0, none⟩) 524288 524288) rfl rfl (fun _ _ => by kernel_rfl) ?_
      refine Takes.val (.slice (some ⟨g, 0, none⟩) 524288 524288) rfl rfl (fun _ _ => by kernel_rfl) ?_
      refine Takes.val (.slice (some ⟨g, 0, none⟩) 524288 524288) rfl rfl (fun _ _ => by kernel_rfl) ?_
      refine Takes.val (.int .i64 (524288)) rfl rfl (fun _ _ => by kernel_rfl) ?_
      refine Takes.val (.int .i64 (524286)) rfl rfl (fun _ _ => by kernel_rfl) ?_
      refine Takes.val (.int .i64 (4)) rfl rfl (fun _ _ => by kernel_rfl) ?_
      refine Takes.val (.int .i64 (2)) rfl rfl (fun _ _ => by kernel_rfl) ?_
      refine Takes.val (.int .i64 (524288)) rfl rfl (fun _ _ => by kernel_rfl) ?_
      refine Takes.val (.slice (some ⟨g, 0, none⟩) 524288 524288) rfl rfl (fun _ _ => by kernel_rfl) ?_
      refine Takes.val (.slice (some ⟨g, 0, none⟩) 524288 524288) rfl rfl (fun _ _ => by kernel_rfl) ?_
      refine Takes.val (.int .i64 (4)) rfl rfl (fun _ _ => by kernel_rfl) ?_
      refine Takes.val (.int .i64 (2)) rfl rfl (fun _ _ => by kernel_rfl) ?_
      refine Takes.val (.int .i64 (2)) rfl rfl (fun _ _ => by kernel_rfl) ?_
      refine Takes.val (.slice (some ⟨g, 0, none⟩) 2 524288) rfl rfl (fun _ _ => by kernel_rfl) ?_
      refine wpAnyH_all (rs := [14]) (by kernel_rfl) (by simp) (fun i hi => ?_)
      obtain rfl := List.mem_singleton.1 hi
      refine wpOp_make (v := .slice (some ⟨w2.drew.heap.size, 0, none⟩) 3 3) (w' := w2.drew.alloc (.cells #[.slice (some ⟨g, 0, none⟩) 524288 524288, .slice (some ⟨g, 0, none⟩) 524288 524288, .slice (some ⟨g, 0, none⟩) 2 524288] 22)) rfl rfl (by kernel_rfl) ⟨trivial, ?_⟩
      refine wpAnyH_all (rs := [15]) (by kernel_rfl) (by simp) (fun i hi => ?_)
      obtain rfl := List.mem_singleton.1 hi
      refine wpOp_enter (f := 14) (args := #[.slice (some ⟨w2.drew.heap.size, 0, none⟩) 3 3]) rfl rfl (by kernel_rfl) (c1.mono ?_)
      rintro e w7 ⟨⟨u7, rfl, hx7, hn7⟩, hb7⟩
      have hB7 := HB6.out.trans (hb7.mono HB6.out.size)
      have c2 := cD u7 w7 hx7 hB7
      refine ⟨u7, rfl, trivial, ?_⟩
      refine wpAnyH_all (rs := [16]) (by kernel_rfl) (by simp) (fun i hi => ?_)
      obtain rfl := List.mem_singleton.1 hi
      refine wpOp_enter (f := 9) (args := #[u7]) rfl rfl (by kernel_rfl) (c2.mono ?_)
      rintro e w8 ⟨⟨u8', rfl, hx8, hn8⟩, hb8⟩
      have hB8 := hB7.trans (hb8.mono hB7.size)
      refine ⟨_, rfl, trivial, ?_⟩
      refine held_of_takes (fuel := 0) (by kernel_rfl) (fun _ _ _ _ _ h => h) trivial [17, 18, 19, 20, 21, 22, 23] _ _ (by kernel_rfl) ?_
      refine Takes.val (.tuple #[u8', .int .i64 n1, .int .i64 e1]) rfl rfl (fun _ _ => by kernel_rfl) ?_
      refine Takes.val u8' rfl rfl (fun _ _ => by kernel_rfl) ?_
      refine Takes.val (.int .i64 n1) rfl rfl (fun _ _ => by kernel_rfl) ?_
      refine Takes.val (.int .i64 e1) rfl rfl (fun _ _ => by kernel_rfl) ?_
      refine Takes.val u8' rfl rfl (fun _ _ => by kernel_rfl) ?_
      refine Takes.val (.int .i64 n1) rfl rfl (fun _ _ => by kernel_rfl) ?_
      refine Takes.val (.int .i64 e1) rfl rfl (fun _ _ => by kernel_rfl) ?_
      refine wpAnyH_done (P := Tryd.prog) (S := fun _ => True) (by kernel_rfl) ?_ 0
      refine NoPanic.normal ?_
      go_simp
      go_wp2_with fail
      go_meet
      case rel => exact ⟨rfl, hB8⟩
  case rest =>
    obtain ⟨rfl, hB8⟩ := hcut
    clear c1 cD HB6 HB2 am am2 bm2 cA2 bw bk ak iA2 iA3 HA2 HA3
    obtain ⟨w9, hw9⟩ : ∃ w9, w9 = wc := ⟨_, rfl⟩
    rw [← hw9] at hB8 ⊢
    clear hw9
    have grx : ∀ i : Nat, str (Ck.xs i) ++ (⟨#[120]⟩ : ByteArray) = str (Ck.xs (i + 1)) := fun i => grow_text (Ck.xs i) (Ck.xs (i + 1)) [120] (by unfold Ck.xs; rw [List.replicate_succ'])
    have gra : ∀ i : Nat, str ([48, 13, 10] ++ Ck.abLines i) ++ (⟨#[97, 58, 32, 98, 13, 10]⟩ : ByteArray) = str ([48, 13, 10] ++ Ck.abLines (i + 1)) := fun i => grow_text _ _ [97, 58, 32, 98, 13, 10] (by rw [Ck.abLines_snoc]; simp)
    have HGX := Lib.hid grx
    have HGA := Lib.hid gra
    clear grx gra
    go_wp2_with fail
    go_loop [11, 12] (fun y i => ∃ j : Nat, j ≤ x ∧ y = .string (str (Ck.xs j)) ∧ i = .int .i64 j) (fun _ i => x - (intOf i).toNat)
    case atStart => exact ⟨0, Nat.zero_le _, rfl, rfl⟩
    case round =>
      obtain ⟨j1, hj1, rfl, rfl⟩ := hrel
      have hz1 : (str (Ck.xs j1)).size ≤ 9000 := by rw [str_size]; unfold Ck.xs; rw [List.length_replicate]; omega
      by_cases hlt1 : j1 < x
      · have hji : (j1 : Int) < x := by omega
        have hg := HGX.out j1
        obtain ⟨s1, hs1⟩ : ∃ s1, s1 = str (Ck.xs j1) := ⟨_, rfl⟩
        obtain ⟨s2, hs2⟩ : ∃ s2, s2 = str (Ck.xs (j1 + 1)) := ⟨_, rfl⟩
        rw [← hs1, ← hs2] at hg
        rw [← hs1] at hz1 ⊢
        have HS2 := Lib.hid hs2
        clear hs1 hs2
        go_wp2_with fail
        go_round
        case rel => exact ⟨j1 + 1, by omega, by rw [HS2.out], by go_num⟩
        case measure => simp [intOf]; omega
      · have hjx : j1 = x := by omega
        subst hjx
        have hji : ¬ ((j1 : Int) < j1) := by omega
        go_upto_region 11 with fail
        obtain ⟨s1, hs1⟩ : ∃ s1, s1 = str (Ck.xs j1) := ⟨_, rfl⟩
        have hs1l : s1.data.toList = Ck.xs j1 := by rw [hs1, str_list]
        rw [← hs1] at hz1 ⊢
        clear hs1 hji hlt1
        have y1 : ((⟨#[49, 59]⟩ : ByteArray) ++ s1).size ≤ 9002 := by rw [ByteArray.size_append]; show 2 + _ ≤ _; omega
        obtain ⟨X, hX⟩ : ∃ X : ByteArray, (⟨#[49, 59]⟩ : ByteArray) ++ s1 ++ ⟨#[13, 10, 97, 13, 10, 48, 13, 10, 13, 10]⟩ = X := ⟨_, rfl⟩
        have hXl : X.data.toList = Ck.longLine j1 := by rw [← hX, app_two, app_two, hs1l]; unfold Ck.longLine; simp
        have hXz : X.size ≤ 9012 := by rw [← hX, ByteArray.size_append]; show _ + 10 ≤ _; omega
        obtain ⟨cc, W2, hcv, hbin, hb2⟩ := octets_text X w9 (by omega)
        rw [hXl] at hbin
        have hW2 := hB8.trans (hb2.mono hB8.size)
        have cD := HP.out.decode _ _ W2 (by rw [← hXl]; have := Oct.length_size X; omega) hbin (HP.out.later HE.out hW2)
        have HE2 := HEf
        obtain ⟨⟨x2, n2, e2⟩, hq2⟩ : ∃ y, Ck.decode (Ck.longLine j1) = y := ⟨_, rfl⟩
        rw [hq2] at cD HE2
        simp only [] at cD HE2
        have HXZ := Lib.hid hXz
        clear hXl hXz hbin hb2 hB8 hq2 hs1l
        go_wp2_with fail
        refine cD.mono ?_
        rintro e3 w3 ⟨⟨u3, rfl, _, _⟩, hb3⟩
        have hW3 := hW2.trans (hb3.mono hW2.size)
        clear cD hcv hb3 hW2 y1 hX hz1
        go_wp2_with fail
        go_loop [16, 17] (fun y i => ∃ j : Nat, j ≤ n ∧ y = .string (str ([48, 13, 10] ++ Ck.abLines j)) ∧ i = .int .i64 j) (fun _ i => n - (intOf i).toNat)
        case atStart => exact ⟨0, Nat.zero_le _, rfl, rfl⟩
        case round =>
          obtain ⟨j2, hj2, rfl, rfl⟩ := hrel
          have hz2 : (str ([48, 13, 10] ++ Ck.abLines j2)).size ≤ 9000 := by rw [str_size, List.length_append, ab_len]; show 3 + _ ≤ _; omega
          by_cases hlt2 : j2 < n
          · have hji : (j2 : Int) < n := by omega
            have hg := HGA.out j2
            obtain ⟨s1, hs1⟩ : ∃ s1, s1 = str ([48, 13, 10] ++ Ck.abLines j2) := ⟨_, rfl⟩
            obtain ⟨s2, hs2⟩ : ∃ s2, s2 = str ([48, 13, 10] ++ Ck.abLines (j2 + 1)) := ⟨_, rfl⟩
            rw [← hs1, ← hs2] at hg
            rw [← hs1] at hz2 ⊢
            have HS2 := Lib.hid hs2
            clear hs1 hs2
            go_wp2_with fail
            go_round
            case rel => exact ⟨j2 + 1, by omega, by rw [HS2.out], by go_num⟩
            case measure => simp [intOf]; omega
          · have hjn : j2 = n := by omega
            subst hjn
            have hji : ¬ ((j2 : Int) < j2) := by omega
            go_upto_region 17 with fail
            obtain ⟨s1, hs1⟩ : ∃ s1, s1 = str ([48, 13, 10] ++ Ck.abLines j2) := ⟨_, rfl⟩
            have hs1l : s1.data.toList = [48, 13, 10] ++ Ck.abLines j2 := by rw [hs1, str_list]
            rw [← hs1] at hz2 ⊢
            clear hs1 hji hlt2
            obtain ⟨Y, hY⟩ : ∃ Y : ByteArray, s1 ++ ⟨#[13, 10]⟩ = Y := ⟨_, rfl⟩
            have hYl : Y.data.toList = Ck.manyLines j2 := by rw [← hY, app_two, hs1l]; rfl
            have hYz : Y.size ≤ 9002 := by rw [← hY, ByteArray.size_append]; show _ + 2 ≤ _; omega
            obtain ⟨cc4, W4, hcv4, hbin4, hb4⟩ := octets_text Y w3 (by omega)
            rw [hYl] at hbin4
            have hW4 := hW3.trans (hb4.mono hW3.size)
            have cD := HP.out.decode _ _ W4 (by rw [← hYl]; have := Oct.length_size Y; omega) hbin4 (HP.out.later HE.out hW4)
            have HE3 := HEg
            obtain ⟨⟨x4, n4, e4⟩, hq4⟩ : ∃ y, Ck.decode (Ck.manyLines j2) = y := ⟨_, rfl⟩
            rw [hq4] at cD HE3
            simp only [] at cD HE3
            clear hYl hYz hbin4 hb4 hW3 hq4 hs1l
            go_wp2_with fail
            refine cD.mono ?_
            rintro e5 w5 ⟨⟨u5', rfl, _, _⟩, hb5⟩
            have hB := hW4.trans (hb5.mono hW4.size)
            clear cD hcv4 hb5 hW4 hY hz2
            by_cases hk2 : k ≤ 2
            · have r1 := HE1.out
              have r2 := HE2.out
              rw [if_pos hk2] at r1 r2
              subst r1 r2
              have hki : (k : Int) ≤ 2 := by omega
              have hkn : ¬ (2 : Int) < k := by omega
              by_cases hn2 : j2 ≤ 128
              · have r3 := HE3.out
                rw [if_pos hn2] at r3
                subst r3
                have hni : (j2 : Int) ≤ 128 := by omega
                go_wp2_with fail
                go_ret
                exact ⟨rfl, hB⟩
              · have r3 := HE3.out
                rw [if_neg hn2] at r3
                subst r3
                have hni : ¬ (j2 : Int) ≤ 128 := by omega
                have hnn : (128 : Int) < j2 := by omega
                go_wp2_with fail
                go_ret
                exact ⟨rfl, hB⟩
            · have r1 := HE1.out
              have r2 := HE2.out
              rw [if_neg hk2] at r1 r2
              subst r1 r2
              have hki : ¬ (k : Int) ≤ 2 := by omega
              have hkn : (2 : Int) < k := by omega
              by_cases hn2 : j2 ≤ 128
              · have r3 := HE3.out
                rw [if_pos hn2] at r3
                subst r3
                have hni : (j2 : Int) ≤ 128 := by omega
                go_wp2_with fail
                go_ret
                exact ⟨rfl, hB⟩
              · have r3 := HE3.out
                rw [if_neg hn2] at r3
                subst r3
                have hni : ¬ (j2 : Int) ≤ 128 := by omega
                have hnn : (128 : Int) < j2 := by omega
                go_wp2_with fail
                go_ret
                exact ⟨rfl, hB⟩
end Go.Proofs.YtgnopcghobaoiaaDoor
