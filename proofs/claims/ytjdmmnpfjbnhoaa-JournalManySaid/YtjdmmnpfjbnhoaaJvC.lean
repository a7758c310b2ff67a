/- Package journal, the program: rows of puts in memory, read, and of the call's own; a record's head. -/
import Derived.Test.YtjdmmnpfjbnhoaaJvB
import Derived.Test.YtjdmmnpfjbnhoaaRelT
import Derived.Laws.AppendOwnNone
import Derived.Deep.OwnRows
namespace Go.Proofs.Ytjdmmnpfjbnhoaa
open Go.RowKit

/-- v reads as the puts. -/
def PRd (w : World) (v : Value) (puts : List Jr.Put) : Prop := ∃ ao cap, v = .slice ao puts.length cap ∧ puts.length ≤ cap ∧ cap ≤ 9223372036854775807 ∧
  (puts = [] ∨ ∃ b o, ao = some ⟨b, o, none⟩ ∧ b < w.heap.size ∧ ∀ k (hk : k < puts.length), ∃ u, w.cell? ⟨b, o + k * 2, none⟩ = some (.int .i64 (puts[k].1 : Int)) ∧ w.cell? ⟨b, o + k * 2 + 1, none⟩ = some u ∧ BIn w u puts[k].2 ∧ NilOk u)
theorem PRd.later {w w' : World} {v : Value} {puts : List Jr.Put} (h : PRd w v puts) (hb : Below w.heap.size w w') : PRd w' v puts := by
  obtain ⟨ao, cap, hv, h1, h2, h⟩ := h
  refine ⟨ao, cap, hv, h1, h2, ?_⟩
  rcases h with h | ⟨b, o, h1, h2, h3⟩
  · exact .inl h
  · refine .inr ⟨b, o, h1, Nat.lt_of_lt_of_le h2 hb.size, fun k hk => ?_⟩
    obtain ⟨u, c1, c2, h4, h5⟩ := h3 k hk
    exact ⟨u, cell_later hb c1, cell_later hb c2, h4.later hb, h5⟩
/-- One of the puts. -/
theorem PRd.nth {w : World} {ao : Option Addr} {n cap : Nat} {puts : List Jr.Put} (h : PRd w (.slice ao n cap) puts) (h64 : ∀ p ∈ puts, p.2.length = 64) {k pa : Nat} {px : List UInt8} (hp : puts[k]? = some (pa, px)) :
    ∃ b o xb xo cv, ao = some ⟨b, o, none⟩ ∧ w.cell? ⟨b, o + k * 2, none⟩ = some (.int .i64 (pa : Int)) ∧ w.cell? ⟨b, o + k * 2 + 1, none⟩ = some (.slice (some ⟨xb, xo, none⟩) 64 cv) ∧ 64 ≤ cv ∧ cv ≤ 9223372036854775807 ∧ px.length = 64 ∧ w.cell? ⟨xb, xo, none⟩ = some (.int .u8 ((px.getD 0 0).toNat : Int)) ∧ BIn w (.slice (some ⟨xb, xo, none⟩) 64 cv) px := by
  obtain ⟨ao9, cap9, hv9, hc19, hc29, h9⟩ := h
  injection hv9 with e1 e2 e3
  subst e1 e2 e3
  obtain ⟨hkl, he⟩ := List.getElem?_eq_some_iff.1 hp
  obtain ⟨b, o, rfl, hbb, hcell⟩ := h9.resolve_left (fun e => by rw [e] at hkl; cases hkl)
  obtain ⟨v, f1, f2, hbi, -⟩ := hcell k hkl
  have h1 := h64 _ (List.getElem_mem hkl)
  rw [he] at f1 hbi h1
  obtain ⟨av, cv, rfl, hcv, hcv9, hxv⟩ := id hbi
  simp only at h1 hcv f2 hbi
  rw [h1] at hcv f2 hbi
  obtain ⟨xb, xo, rfl, hxb, hxc⟩ := hxv.resolve_left (fun e => by have e9 : px = [] := e; rw [e9] at h1; cases h1)
  have hx0 := hxc 0 (by show 0 < px.length; omega)
  refine ⟨b, o, xb, xo, cv, rfl, f1, f2, hcv, hcv9, h1, ?_, hbi⟩
  rw [Nat.add_zero] at hx0
  rw [hx0, List.getD_eq_getElem?_getD, List.getElem?_eq_getElem]
  rfl
theorem PutsOut.rd {F : Nat → Prop} {w : World} {v : Value} {puts : List Jr.Put} (h : PutsOut F w v puts) : PRd w v puts := by
  obtain ⟨ao, cap, hv, h1, h2, h⟩ := h
  refine ⟨ao, cap, hv, h1, h2, ?_⟩
  rcases h with h | ⟨b, o, h1, h2, hF, h3⟩
  · exact .inl h
  · refine .inr ⟨b, o, h1, h2, fun k hk => ?_⟩
    obtain ⟨u, c1, c2, h4⟩ := h3 k hk
    exact ⟨u, c1, c2, h4.1, h4.2.1⟩
theorem PutsOut.touch {F F' : Nat → Prop} {w w' : World} {v : Value} {puts : List Jr.Put} (h : PutsOut F w v puts) (ht : Touch F w w') (hm : More F F' w) : PutsOut F' w' v puts := by
  obtain ⟨ao, cap, hv, h1, h2, h⟩ := h
  refine ⟨ao, cap, hv, h1, h2, ?_⟩
  rcases h with h | ⟨b, o, h1, h2, hF, h3⟩
  · exact .inl h
  · refine .inr ⟨b, o, h1, Nat.lt_of_lt_of_le h2 ht.size, fun hf => ?_, fun k hk => ?_⟩
    · rcases hm _ hf with h | h
      · exact hF h
      · exact absurd h2 (Nat.not_lt.2 h)
    · obtain ⟨u, c1, c2, h4⟩ := h3 k hk
      exact ⟨u, by rw [← c1]; exact World.cell?_of_block (a := ⟨b, o + k * 2, none⟩) (ht.block b h2 hF), by rw [← c2]; exact World.cell?_of_block (a := ⟨b, o + k * 2 + 1, none⟩) (ht.block b h2 hF), h4.touch ht hm⟩
theorem PutsOut.weak {F F' : Nat → Prop} {w : World} {v : Value} {puts : List Jr.Put} (h : PutsOut F w v puts) (hF : ∀ k, F' k → F k) : PutsOut F' w v puts := h.touch (Touch.refl _ _) (fun k hk => .inl (hF k hk))

theorem put_info : (Try.prog.info? 37).map (fun i => (i.zero, i.size, i.bytes)) = some (some (.agg #[.int .i64 0, .slice none 0 0]), 2, 32) := by kernel_rfl
/-- What a head's octets are behind k of its puts. -/
def hd_ (u : Nat) (puts : List Jr.Put) (k : Nat) : List UInt8 := (72 :: (Jr.lay u 8 ++ (UInt8.ofNat puts.length :: Jr.heads (puts.take k)))) ++ List.replicate (54 - 5 * k) 0
theorem hd_len (u : Nat) (puts : List Jr.Put) (k : Nat) (hk : k ≤ puts.length) (h10 : puts.length ≤ 10) : (hd_ u puts k).length = 64 := by
  unfold hd_
  simp only [List.length_append, List.length_cons, Jr.lay_length, Jr.heads_length, List.length_take, List.length_replicate]
  omega
theorem hd_full (u : Nat) (puts : List Jr.Put) (hu : u < 9223372036854775808) : hd_ u puts puts.length = Jr.head (u : Int) puts := by
  unfold hd_ Jr.head Jr.fill
  rw [Jr.u64_nat u (by omega), List.take_length]
  congr 2
  simp only [List.length_cons, List.length_append, Jr.lay_length, Jr.heads_length]
  omega
theorem heads_snoc (puts : List Jr.Put) (k : Nat) (hk : k < puts.length) : Jr.heads (puts.take (k + 1)) = Jr.heads (puts.take k) ++ (Jr.lay puts[k].1 4 ++ [puts[k].2.getD 0 0]) := by
  unfold Jr.heads
  rw [List.take_add_one, List.getElem?_eq_getElem hk, List.flatMap_append]
  simp
theorem hd_step (u : Nat) (puts : List Jr.Put) (k : Nat) (hk : k < puts.length) (h10 : puts.length ≤ 10) :
    ((hd_ u puts k).take (10 + 5 * k) ++ Jr.lay puts[k].1 4 ++ (hd_ u puts k).drop (10 + 5 * k + 4)).set (10 + 5 * k + 4) (puts[k].2.getD 0 0) = hd_ u puts (k + 1) := by
  have hA : (72 :: (Jr.lay u 8 ++ (UInt8.ofNat puts.length :: Jr.heads (puts.take k)))).length = 10 + 5 * k := by
    simp only [List.length_append, List.length_cons, Jr.lay_length, Jr.heads_length, List.length_take]; omega
  have e1 : hd_ u puts k = (72 :: (Jr.lay u 8 ++ (UInt8.ofNat puts.length :: Jr.heads (puts.take k)))) ++ (List.replicate 4 0 ++ (0 :: List.replicate (49 - 5 * k) 0)) := by
    unfold hd_
    rw [show 54 - 5 * k = 4 + ((49 - 5 * k) + 1) by omega, ← List.replicate_append_replicate, List.replicate_succ (n := 49 - 5 * k)]
  have e2 : hd_ u puts (k + 1) = (72 :: (Jr.lay u 8 ++ (UInt8.ofNat puts.length :: Jr.heads (puts.take k)))) ++ (Jr.lay puts[k].1 4 ++ (puts[k].2.getD 0 0 :: List.replicate (49 - 5 * k) 0)) := by
    unfold hd_
    rw [heads_snoc puts k hk, show 54 - 5 * (k + 1) = 49 - 5 * k by omega]
    simp
  rw [e1, e2, cut3 _ _ _ _ _ _ hA (by simp), List.set_append_right _ _ (by rw [hA]; omega), hA, List.set_append_right _ _ (by rw [Jr.lay_length]; omega), Jr.lay_length, show 10 + 5 * k + 4 - (10 + 5 * k) - 4 = 0 by omega]
  rfl
theorem hd_zero (u : Nat) (puts : List Jr.Put) : (Jr.fill (72 :: Jr.lay u 8)).set 9 (UInt8.ofNat puts.length) = hd_ u puts 0 := by
  unfold hd_ Jr.fill
  rw [List.length_cons, Jr.lay_length]
  show (72 :: (Jr.lay u 8 ++ (0 :: List.replicate 54 0))).set 9 _ = _
  rw [List.set_cons_succ, List.set_append_right _ _ (by rw [Jr.lay_length]; omega), Jr.lay_length]
  simp [Jr.heads]

set_option maxHeartbeats 3200000 in
set_option maxRecDepth 100000 in
theorem head_w (u : Nat) (x v : Value) (puts : List Jr.Put) (w : World) (h : PRd w v puts) (h64 : ∀ p ∈ puts, p.2.length = 64) (hp : ∀ p ∈ puts, p.1 < 9223372036854775808) (h10 : puts.length ≤ 10) (hu : u < 9223372036854775808) :
    Calls Try.prog 57 #[.agg #[.int .i64 (u : Int), x, v]] w fun e w' => ∃ g, e = .returned (.slice (some ⟨g, 0, none⟩) 64 64) ∧ w.heap.size ≤ g ∧ Blk w' g (Jr.head (u : Int) puts) ∧ Below w.heap.size w w' := by
  obtain ⟨ao, cap, rfl, hc, hc9, hg⟩ := id h
  obtain ⟨n, hn⟩ : ∃ n, n = puts.length := ⟨_, rfl⟩
  have HN := Lib.hid hn
  have HG := Lib.hid h
  have HP := Lib.hid (And.intro h64 hp)
  rw [← hn] at hc h10
  have CT := Lib.hid (fun W => titled_w 72 u W hu)
  have hr := heap_alloc_new w (.cells #[.int .i64 (u : Int), x, .slice ao puts.length cap] 77)
  have hb0 : Below w.heap.size w (w.alloc (.cells #[.int .i64 (u : Int), x, .slice ao puts.length cap] 77)) := (Below.refl _ w).alloc (Nat.le_refl _) _
  have hb09 : ((w.alloc (.cells #[.int .i64 (u : Int), x, .slice ao puts.length cap] 77))).heap.size = w.heap.size + 1 := by simp
  rw [← hn] at hr hb0 hb09 ⊢
  have hni : (n : Int) ≤ 10 := by omega
  clear h h64 hp hn hg
  go_enter Try.func57, Try.ntmps57
  go_upto_region 1 with fail
  obtain ⟨q, hq⟩ : ∃ q, q = w.heap.size := ⟨_, rfl⟩
  rw [← hq] at hr ⊢
  generalize w.alloc _ = w1 at *
  have c0 := (blk_cell hr 0 (.int .i64 (u : Int)) rfl).1
  have HR := Lib.hid hr
  have HB0 := Lib.hid hb0
  have HQ := Lib.hid (And.intro hq hb09)
  clear hr hb0 hq hb09
  go_wp2_with fail
  refine (CT.out _).mono ?_
  rintro e w2 ⟨g, rfl, hg, hB, hb2⟩
  have hr2 : w2.heap[q]? = some (.cells #[.int .i64 (u : Int), x, .slice ao n cap] 77 (0, 0)) := (hb2.block q (lt_of_block HR.out)).trans HR.out
  have c2 := (blk_cell hr2 2 (.slice ao n cap) rfl).1
  have hqg : q < g := Nat.lt_of_lt_of_le (lt_of_block HR.out) hg
  have h64f : (Jr.fill (72 :: Jr.lay u 8)).length = 64 := Jr.fill_length (by rw [List.length_cons, Jr.lay_length]; decide)
  obtain ⟨fd, ff⟩ := hB.cell 9 (by rw [h64f]; decide)
  generalize (Jr.fill (72 :: Jr.lay u 8))[9]'(by rw [h64f]; decide) = y at fd
  have hB3 := hB.set 9 (UInt8.ofNat puts.length) (n : Int) (by rw [UInt8.toNat_ofNat', ← HN.out, Nat.mod_eq_of_lt (by omega)])
  rw [hd_zero] at hB3
  have HB2 := Lib.hid (set_below (k := 9) (v := .int .u8 (n : Int)) (bt5 HB0.out hb2) (by have := HQ.out; omega : w.heap.size ≤ g))
  have HB3 := Lib.hid hB3
  have hg0 : w.heap.size ≤ g := by have := HQ.out; omega
  have HG0 := Lib.hid hg0
  have hr3 := (heap_setCell_other w2 ⟨g, 9, none⟩ q (.int .u8 (n : Int)) (fun e => by have e9 : q = g := e; omega)).trans hr2
  have HR3 := Lib.hid hr3
  clear hB3 hB hb2 h64f hr2 hg hr3 HR HB0 CT
  go_upto_region 3 with fail
  have c2 := (blk_cell HR3.out 2 (.slice ao n cap) rfl).1
  generalize w2.setCell _ _ = w3 at *
  have HG1 := Lib.hid hqg
  clear fd ff hqg HR3 c0 HQ
  go_wp2_with fail
  go_loopw [20] (fun i wr => ∃ k : Nat, k ≤ n ∧ i = .int .i64 k ∧ Blk wr g (hd_ u puts k) ∧ Below w.heap.size w wr) (fun i _ => n - (intOf i).toNat)
  case atStart => exact ⟨0, Nat.zero_le _, rfl, HB3.out, HB2.out⟩
  case round =>
    obtain ⟨k, hk, rfl, hB, hbr⟩ := hrel
    clear c2 HB2 HB3
    by_cases hlt : k < n
    · have hki : (k : Int) < n := by omega
      have hkl : k < puts.length := by rw [← HN.out]; exact hlt
      have hst := hd_step u puts k hkl (by rw [← HN.out]; exact h10)
      have hln := hd_len u puts k (by omega) (by rw [← HN.out]; exact h10)
      have hp1 := HP.out.2 _ (List.getElem_mem hkl)
      have hpk : puts[k]? = some puts[k] := List.getElem?_eq_getElem hkl
      generalize puts[k] = p at *
      obtain ⟨pa, px⟩ := p
      simp only at hst hp1
      obtain ⟨b, o, xb, xo, cv, rfl, f1, f2, hcv, hcv9, -, hx0, -⟩ := HG.out.nth HP.out.1 hpk
      have hxbg : xb ≠ g := by have h8 := World.block_lt_of_cell? w _ hx0; have h9 : xb < w.heap.size := h8; omega
      have f1 := cell_later hbr f1
      have f2 := cell_later hbr f2
      have hx0 := cell_later hbr hx0
      generalize px.getD 0 0 = x0 at *
      have HST := Lib.hid hst
      have HLN := Lib.hid hln
      have HB := Lib.hid (And.intro hB hbr)
      have HX0 := Lib.hid hx0
      have hgr := hB.lt
      have hr := heap_alloc_new wr (.cells #[.int .i64 (pa : Int), .slice (some ⟨xb, xo, none⟩) 64 cv] 37)
      have hba : Below wr.heap.size wr (wr.alloc (.cells #[.int .i64 (pa : Int), .slice (some ⟨xb, xo, none⟩) 64 cv] 37)) := (Below.refl _ wr).alloc (Nat.le_refl _) _
      clear hst hln hB hbr hx0
      go_upto_region 6 with fail
      obtain ⟨r, hre⟩ : ∃ r, r = wr.heap.size := ⟨_, rfl⟩
      have hgr2 : g < r := by rw [hre]; exact hgr
      have HRE := Lib.hid hre
      generalize wr.alloc _ = w4 at hr hba ⊢
      rw [← hre] at hr ⊢
      have cs := slot_w g 0 64 k w4 (by decide) (by omega) (by decide)
      have HW4 := Lib.hid (And.intro hr hba)
      have HF := Lib.hid (And.intro f1 f2)
      clear hre hr hba hgr f1 f2
      go_wp2_with fail
      refine cs.mono ?_
      rintro e w5 ⟨rfl, hb5⟩
      have hr5 := (hb5.block r (lt_of_block HW4.out.1)).trans HW4.out.1
      have d0 := (blk_cell hr5 0 (.int .i64 (pa : Int)) rfl).1
      have d1 := (blk_cell hr5 1 (.slice (some ⟨xb, xo, none⟩) 64 cv) rfl).1
      have hB5 := (HB.out.1.later HW4.out.2).later hb5
      have hbw5 := Lib.hid (bt5 (bt5 HB.out.2 HW4.out.2) hb5)
      have cL := lay_w g (10 + 5 * k) 4 (64 - (10 + 5 * k)) pa _ w5 hB5 (by decide) (by rw [HLN.out]; omega) hp1 (by rw [HLN.out]; decide)
      have hx5 := cell_later hb5 (cell_later HW4.out.2 HX0.out)
      have HX5 := Lib.hid hx5
      have HR5 := Lib.hid (And.intro hr5 hB5.lt)
      clear cs hb5 hB5 hr5 hx5 HW4 HF HX0
      rw [Nat.zero_add]
      go_wp2_with fail
      refine cL.mono ?_
      rintro e w6 ⟨rfl, hB6, ht6⟩
      have hr6 := (ht6.block r (lt_of_block HR5.out.1) (by omega)).trans HR5.out.1
      have d1 := (blk_cell hr6 1 (.slice (some ⟨xb, xo, none⟩) 64 cv) rfl).1
      have hx6 : w6.cell? ⟨xb, xo, none⟩ = some (.int .u8 (x0.toNat : Int)) := by
        rw [← HX5.out]; exact World.cell?_of_block (a := ⟨xb, xo, none⟩) (ht6.block xb (World.block_lt_of_cell? w5 _ HX5.out) hxbg)
      have hl6 : (List.take (10 + 5 * k) (hd_ u puts k) ++ Jr.lay pa 4 ++ List.drop (10 + 5 * k + 4) (hd_ u puts k)).length = 64 := by
        rw [List.length_append, List.length_append, List.length_take, List.length_drop, Jr.lay_length, HLN.out]; omega
      obtain ⟨fd, ff⟩ := hB6.cell (10 + 5 * k + 4) (by rw [hl6]; omega)
      generalize (List.take (10 + 5 * k) (hd_ u puts k) ++ Jr.lay pa 4 ++ List.drop (10 + 5 * k + 4) (hd_ u puts k))[10 + 5 * k + 4]'(by rw [hl6]; omega) = y9 at fd
      have hB7 := hB6.set (10 + 5 * k + 4) x0 (x0.toNat : Int) rfl
      rw [HST.out] at hB7
      have HB7 := Lib.hid (And.intro hB7 (set_below (k := 10 + 5 * k + 4) (v := .int .u8 (x0.toNat : Int)) (ht6.below (fun k hk => by rw [hk]; exact hg0) hbw5.out hbw5.out.size) hg0))
      clear hB6 hB7 ht6 hr6 hl6 cL d0
      go_wp2_with fail
      go_roundw
      case rel => exact ⟨k + 1, by omega, by go_num, HB7.out⟩
      case measure => simp [intOf]; omega
    · have hki : ¬ (k : Int) < n := by omega
      have hke : k = puts.length := by rw [← HN.out]; omega
      subst hke
      rw [hd_full u puts hu] at hB
      have HX := Lib.hid (And.intro HG0.out (And.intro hB hbr))
      clear hB hbr hlt hk
      go_wp2_with fail
      go_ret
      exact ⟨g, rfl, HX.out⟩
end Go.Proofs.Ytjdmmnpfjbnhoaa
