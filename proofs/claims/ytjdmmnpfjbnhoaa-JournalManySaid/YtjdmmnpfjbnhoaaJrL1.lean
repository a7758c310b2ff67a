/- The law's awake over the pack. -/
import Derived.Test.YtjdmmnpfjbnhoaaJrP
import Derived.Test.YtjdmmnpfjbnhoaaDv1
import Derived.Test.YtjdmmnpfjbnhoaaDvP1
import Derived.BigQuiet
namespace Go.Proofs.Ytjdmmnpfjbnhoaa
open Go.RowKit
section
variable {Env : World → Prop} {Dev : World → Nat → Dv.S → (Nat → Prop) → Prop} {JD : World → Nat → Nat → Jr.J → Dv.S → (Nat → Prop) → Prop}

theorem fl_init (n : Nat) : Jr.Fl (Dv.init n) := ⟨Dv.calm_init n, rfl, fun x hx => by rw [(List.mem_replicate.1 hx).2]; exact List.length_replicate⟩
theorem kin_nil (F : Nat → Prop) (w : World) : KIn F w (.slice none 0 0) [] := ⟨none, 0, rfl, Nat.le_refl _, by decide, .inl rfl⟩
def j0 (n : Nat) : Jr.J := ⟨0, n, 1, 1, 2, 2, false, [], 0⟩
/-- Two puts of the law's own. -/
theorem puts_two {F : Nat → Prop} {w : World} {a b : Nat} {x y : List UInt8} (p q : Nat) (hx : Blk w a x) (hy : Blk w b y) (hx6 : x.length = 64) (hy6 : y.length = 64) (ha : ¬ F a) (hb : ¬ F b) (hF : ∀ k, F k → k < w.heap.size) :
    PutsOut F (w.alloc (.cells #[.int .i64 (p : Int), .slice (some ⟨a, 0, none⟩) 64 64, .int .i64 (q : Int), .slice (some ⟨b, 0, none⟩) 64 64] 37)) (.slice (some ⟨w.heap.size, 0, none⟩) 2 2) [(p, x), (q, y)] := by
  have hb9 : Below w.heap.size w (w.alloc (.cells #[.int .i64 (p : Int), .slice (some ⟨a, 0, none⟩) 64 64, .int .i64 (q : Int), .slice (some ⟨b, 0, none⟩) 64 64] 37)) := (Below.refl _ w).alloc (Nat.le_refl _) _
  have hr := heap_alloc_new w (.cells #[.int .i64 (p : Int), .slice (some ⟨a, 0, none⟩) 64 64, .int .i64 (q : Int), .slice (some ⟨b, 0, none⟩) 64 64] 37)
  have ox := (hx.out (F := F) hx6.symm (by decide) ha).touch (Touch.of hb9) (fun k hk => .inl hk)
  have oy := (hy.out (F := F) hy6.symm (by decide) hb).touch (Touch.of hb9) (fun k hk => .inl hk)
  refine ⟨_, 2, rfl, Nat.le_refl _, by decide, .inr ⟨w.heap.size, 0, rfl, by simp, fun hf => Nat.lt_irrefl _ (hF _ hf), fun k hk => ?_⟩⟩
  match k, hk with
  | 0, _ => exact ⟨_, (blk_cell hr 0 _ rfl).1, (blk_cell hr 1 _ rfl).1, ox⟩
  | 1, _ => exact ⟨_, (blk_cell hr 2 _ rfl).1, (blk_cell hr 3 _ rfl).1, oy⟩
/-- One put of the law's own. -/
theorem puts_one {F : Nat → Prop} {w : World} {a : Nat} {x : List UInt8} (p : Nat) (hx : Blk w a x) (hx6 : x.length = 64) (ha : ¬ F a) (hF : ∀ k, F k → k < w.heap.size) :
    PutsOut F (w.alloc (.cells #[.int .i64 (p : Int), .slice (some ⟨a, 0, none⟩) 64 64] 37)) (.slice (some ⟨w.heap.size, 0, none⟩) 1 1) [(p, x)] := by
  have hb9 : Below w.heap.size w (w.alloc (.cells #[.int .i64 (p : Int), .slice (some ⟨a, 0, none⟩) 64 64] 37)) := (Below.refl _ w).alloc (Nat.le_refl _) _
  have hr := heap_alloc_new w (.cells #[.int .i64 (p : Int), .slice (some ⟨a, 0, none⟩) 64 64] 37)
  have ox := (hx.out (F := F) hx6.symm (by decide) ha).touch (Touch.of hb9) (fun k hk => .inl hk)
  refine ⟨_, 1, rfl, Nat.le_refl _, by decide, .inr ⟨w.heap.size, 0, rfl, by simp, fun hf => Nat.lt_irrefl _ (hF _ hf), fun k hk => ?_⟩⟩
  match k, hk with
  | 0, _ => exact ⟨_, (blk_cell hr 0 _ rfl).1, (blk_cell hr 1 _ rfl).1, ox⟩
theorem Blk.later {w w' : World} {g : Nat} {l : List UInt8} (h : Blk w g l) (hb : Below w.heap.size w w') : Blk w' g l := by
  obtain ⟨C, h1, h2, h3⟩ := h
  exact ⟨C, by rw [hb.block g (lt_of_block h1)]; exact h1, h2, h3⟩

set_option maxHeartbeats 6400000 in
set_option maxRecDepth 100000 in
theorem awake15 (P : Prog15 Env Dev JD) (Q : Prog13 Env Dev) (W : World) (hE : Env W) :
    Calls Try.prog 4 #[] W fun e w' => e = .returned (.bool true) ∧ Below W.heap.size W w' := by
  obtain ⟨d1, d2, d3, d4, d5, j, j3, j5, hx⟩ := Jr.example_run
  have HX := Lib.hid hx
  have HE := Lib.hid (fun (w : World) (hb : Below W.heap.size W w) => Q.env hE hb)
  have HP := Lib.hid P
  have HQ := Lib.hid Q
  have c0 := Q.new 30 W (by decide) (by decide) hE
  clear hE hx P Q
  go_enter Try.func4, Try.ntmps4
  go_wp2_with fail
  refine c0.mono ?_
  rintro e w1 ⟨g, F1, rfl, hD1, hb1, hF1⟩
  have S1 := Lib.hid (show Side W w1 (fun w F => Dev w g (Dv.init 30) F) F1 from ⟨hD1, hF1, hb1⟩)
  have c1 := HP.out.format g (Dv.init 30) F1 10 10 w1 hD1 ⟨fl_init 30, by decide, by decide⟩ (by decide) (by decide) rfl (HE.out w1 hb1)
  rw [show Jr.format (Dv.init 30) 0 ((10 : Nat) : Int) = (d1, 0) from HX.out.fmt] at c1
  clear c0 hD1 hb1 hF1
  go_wp2_with fail
  refine c1.mono ?_
  rintro e w2 ⟨F2, rfl, hD2, ht2, hm2⟩
  have S2 := Lib.hid (show Side W w2 (fun w F => Dev w g d1 F) F2 from S1.out.step hD2 ht2 hm2)
  have c2 := HP.out.open_ g d1 F2 (j0 10) 10 w2 hD2 ⟨HX.out.f1, by rw [HX.out.l1]; decide, by have := HX.out.n1; omega⟩ HX.out.s1 rfl rfl (by decide) (HE.out w2 S2.out.below)
  rw [show Jr.openS (Jr.sure d1 d1.safe 1) (Jr.opened (j0 10).from_ (j0 10).n (j0 10).mark (j0 10).next (j0 10).at_ (j0 10).owed (j0 10).cnt) = (d2, j) from HX.out.o2] at c2
  clear c1 hD2 ht2 hm2 S1
  go_wp2_with fail
  refine c2.mono ?_
  rintro e w3 ⟨q, F3, rfl, hJ3, ht3, hm3⟩
  have S3 := Lib.hid (show Side W w3 (fun w F => JD w q g j d2 F) F3 from S2.out.step hJ3 ht3 hm3)
  have c3 := filled_w 1 w3
  clear c2 hJ3 ht3 hm3 S2
  go_wp2_with fail
  refine c3.mono ?_
  rintro e w4 ⟨rfl, hB4, hb4⟩
  have HB4 := Lib.hid (And.intro hB4 hb4)
  have c4 := filled_w 2 w4
  clear c3 hB4 hb4
  go_wp2_with fail
  refine c4.mono ?_
  rintro e w5 ⟨rfl, hB5, hb5⟩
  have hlt3 := fun k hk => HP.out.lt S3.out.thing k hk
  have hb35 := bt5 HB4.out.2 hb5
  have S5 := Lib.hid (S3.out.later (w' := w5) (fun h hs hk => HP.out.keep h hs hk) hlt3 hb35)
  have hputs := puts_two (F := F3) 20 21 (HB4.out.1.later hb5) hB5 (filled_len 1) (filled_len 2) (fun hf => Nat.lt_irrefl _ (hlt3 _ hf)) (fun hf => by have := hlt3 _ hf; have := HB4.out.2.size; omega) (fun k hk => Nat.lt_of_lt_of_le (hlt3 k hk) hb35.size)
  obtain ⟨pa, hpa⟩ : ∃ pa, pa = w3.heap.size := ⟨_, rfl⟩
  obtain ⟨pb, hpb⟩ : ∃ pb, pb = w4.heap.size := ⟨_, rfl⟩
  rw [← hpa, ← hpb] at hputs
  rw [← hpa, ← hpb]
  have hb6 : Below w5.heap.size w5 (w5.alloc (.cells #[.int .i64 ((20 : Nat) : Int), .slice (some ⟨pa, 0, none⟩) 64 64, .int .i64 ((21 : Nat) : Int), .slice (some ⟨pb, 0, none⟩) 64 64] 37)) := (Below.refl _ w5).alloc (Nat.le_refl _) _
  have S6 := Lib.hid (S5.out.later (fun h hs hk => HP.out.keep h hs hk) (fun k hk => HP.out.lt S5.out.thing k hk) hb6)
  have c6 := HP.out.commit q g j d2 F3 _ [(20, filled 1), (21, filled 2)] _ S6.out.thing ⟨HX.out.f2, by rw [HX.out.l2]; decide, by have := HX.out.n2; omega⟩ HX.out.s2 (by rw [HX.out.j2.2.2]; decide) hputs (by rw [HX.out.l2, HX.out.j2.1, HX.out.j2.2.1]; exact Jr.fit_two 30 rfl) (by rw [HX.out.j2.2.1]; decide) (HE.out _ S6.out.below)
  rw [show Jr.commit d2 j [(20, filled 1), (21, filled 2)] = (d3, j3, true, 0) from HX.out.c3] at c6
  clear c4 hB5 hb5 hlt3 hb35 hputs hb6 hpa hpb S3 S5 HB4
  go_wp2_with fail
  refine c6.mono ?_
  rintro e w7 ⟨F7, rfl, hJ7, ht7, hm7⟩
  have S7 := Lib.hid (show Side W w7 (fun w F => JD w q g j3 d3 F) F7 from S6.out.step hJ7 ht7 hm7)
  obtain ⟨F8, hsub, hD8, -⟩ := HP.out.dev hJ7
  have S8 := Lib.hid (show Side W w7 (fun w F => Dev w g d3 F) F8 from ⟨hD8, fun k hk => S7.out.high k (hsub k hk), S7.out.below⟩)
  have c8 := HQ.out.crash g d3 F8 (.slice none 0 0) [] (-1) 0 w7 hD8 (fair_fl ⟨HX.out.f3, by rw [HX.out.l3]; decide, by have := HX.out.n3; omega⟩) (kin_nil _ _) (by decide) (by decide) (HE.out w7 S7.out.below)
  rw [HX.out.k4] at c8
  unfold mkCrash at c8
  clear c6 S6 hJ7 ht7 hm7 S7 hsub hD8
  go_wp2_with fail
  refine c8.mono ?_
  rintro e w9 ⟨F9, x9, rfl, hD9, ht9, hm9⟩
  have S9 := Lib.hid (show Side W w9 (fun w F => Dev w g d4 F) F9 from S8.out.step hD9 ht9 hm9)
  have c9 := HP.out.open_ g d4 F9 j3 10 w9 hD9 ⟨HX.out.f4, by rw [HX.out.l4]; decide, by have := HX.out.n4; omega⟩ HX.out.s4 HX.out.j4.1 (by rw [HX.out.j4.2.1]; rfl) (by have := HX.out.j4.2.2.2; omega) (HE.out w9 S9.out.below)
  rw [HX.out.o5, HX.out.j4.2.2.1] at c9
  clear c8 hD9 ht9 hm9 S8
  go_wp2_with fail
  refine c9.mono ?_
  rintro e w10 ⟨q10, F10, rfl, hJ10, ht10, hm10⟩
  have S10 := Lib.hid (show Side W w10 (fun w F => JD w q10 g j5 d5 F) F10 from S9.out.step hJ10 ht10 hm10)
  obtain ⟨F11, hsub, hD11, -⟩ := HP.out.dev hJ10
  have S11 := Lib.hid (show Side W w10 (fun w F => Dev w g d5 F) F11 from ⟨hD11, fun k hk => S10.out.high k (hsub k hk), S10.out.below⟩)
  have c11 := HQ.out.read g d5 F11 20 2 w10 hD11 (fair_fl ⟨HX.out.f5, by rw [HX.out.l5]; decide, by have := HX.out.n5; omega⟩) (by decide) (by decide) (HE.out w10 S10.out.below)
  rw [HX.out.r5] at c11
  clear c9 hJ10 ht10 hm10 S9 S10 hsub hD11
  go_wp2_with fail
  refine c11.mono ?_
  rintro e w12 ⟨F12, v12, rfl, hD12, ht12, hm12, hv12⟩
  have S12 := Lib.hid (show Below W.heap.size W w12 from ht12.below S11.out.high S11.out.below S11.out.below.size)
  have HV := Lib.hid hv12.in_
  have c12 := filled_w 1 w12
  clear c11 hD12 ht12 hm12 hv12 S11
  go_wp2_with fail
  refine c12.mono ?_
  rintro e w13 ⟨rfl, hB13, hb13⟩
  have HB13 := Lib.hid (And.intro hB13 hb13)
  have c13 := filled_w 2 w13
  clear c12 hB13 hb13
  go_wp2_with fail
  refine c13.mono ?_
  rintro e w14 ⟨rfl, hB14, hb14⟩
  have hbs := bs_lit w14 #[.slice (some ⟨w12.heap.size, 0, none⟩) 64 64, .slice (some ⟨w13.heap.size, 0, none⟩) 64 64] [Dv.f_ 1, Dv.f_ 2] 2 rfl (by decide) (fun k hk => by
    match k, hk with
    | 0, _ => exact ⟨_, rfl, (HB13.out.1.later hb14).in_ (filled_len 1).symm (Nat.le_refl _) (by decide), nil_ok _ _ _⟩
    | 1, _ => exact ⟨_, rfl, hB14.in_ (filled_len 2).symm (Nat.le_refl _) (by decide), nil_ok _ _ _⟩)
  have hb15 := (bt5 HB13.out.2 hb14).alloc (bt5 HB13.out.2 hb14).size (.cells #[.slice (some ⟨w12.heap.size, 0, none⟩) 64 64, .slice (some ⟨w13.heap.size, 0, none⟩) 64 64] 22)
  have cS := Same_w _ _ _ _ _ (HV.out.later hb15) hbs
  rw [decide_eq_true rfl] at cS
  have HB15 := Lib.hid (bt5 S12.out hb15)
  clear c13 hB14 hb14 hbs hb15 HB13
  go_wp2_with fail
  refine cS.mono ?_
  rintro e w16 ⟨rfl, hb16⟩
  have HB16 := Lib.hid (bt5 HB15.out hb16)
  clear cS hb16
  go_wp2_with fail
  go_ret
  exact ⟨rfl, HB16.out⟩
end
end Go.Proofs.Ytjdmmnpfjbnhoaa
