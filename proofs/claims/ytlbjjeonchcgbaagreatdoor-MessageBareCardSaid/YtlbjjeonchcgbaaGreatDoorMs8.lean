/- The statements of layer 8: MessageBare. -/
import Derived.Test.YtlbjjeonchcgbaaGreatDoorMs7
namespace Go.Proofs.YtlbjjeonchcgbaaGreatDoor
open Go.RowKit

theorem enc_one_small (x : List UInt8) (h : x.length ≤ 3000) : (Ck.encode [x]).length ≤ 4000 := by
  unfold Ck.encode Ck.chunkOf
  by_cases h0 : x = []
  · subst h0; decide
  · simp only [List.flatMap_cons, List.flatMap_nil, List.append_nil]
    rw [if_neg h0]
    have h2 : (Oct.print (x.length : Int) 16).length ≤ 20 := Ck.hex_len 19 x.length (by omega)
    simp only [List.length_append, List.length_cons, List.length_nil]
    omega
theorem right_len {s : St.S} {fs : List Fld.F} {x m : List UInt8} (h : Ms.right ⟨s, fs, x⟩ m = true) (hx : x.length ≤ 3000) :
    (Ms.print ⟨s, fs, x⟩ m).length ≤ 100000 ∧ (Fld.print fs).length ≤ 65536 ∧ (St.text s).length ≤ 9000 := by
  obtain ⟨_, h2, h3, _⟩ := Ms.right_parts h
  have f1 : (Fld.print fs).length ≤ 65536 := by rw [Fld.print_length]; exact (Fld.fault_zero h3).2.2
  have f2 : (St.text s).length ≤ 9000 := by
    have a := St.body_len h2
    rw [St.text_len]
    by_cases h0 : s.status = 0
    · have := a.1 h0; simp only [] at this; omega
    · have := a.2 h0; simp only [] at this; omega
  refine ⟨?_, f1, f2⟩
  have h4 := enc_one_small x hx
  unfold Ms.print Ms.head
  simp only [List.length_append]
  split <;> omega
theorem Sm.small {s : St.S} {fs : List Fld.F} {x m : List UInt8} (h : Sm s fs x m) : Small fs :=
  ⟨by have := h.count; omega, fun f hf => by have := h.fields f hf; omega⟩
/-- A right message without a body, printed, read where the status has none. -/
theorem bare_parse {s : St.S} {fs : List Fld.F} (h : Ms.right ⟨s, fs, []⟩ Ms.kHead = true) (h0 : s.status ≠ 0) (hb : s.status < 200 ∨ s.status = 204 ∨ s.status = 304) (tail : List UInt8) :
    Ms.parse (Ms.print ⟨s, fs, []⟩ Ms.kHead ++ tail) false [71, 69, 84] = (⟨s, fs, []⟩, (Ms.print ⟨s, fs, []⟩ Ms.kHead).length, 0) := by
  have f1 : Ms.framed s fs Ms.kHead = (0, 0, 0) := Ms.bare_framed (by unfold Ms.bare; rw [decide_eq_true h0]; simp)
  have f2 : Ms.framed s fs [71, 69, 84] = (0, 0, 0) := Ms.bare_framed (by
    unfold Ms.bare; rw [decide_eq_true h0]
    rcases hb with h | h | h
    · simp [h]
    · simp [h]
    · simp [h])
  have hr : Ms.right ⟨s, fs, []⟩ [71, 69, 84] = true := by
    unfold Ms.right at h ⊢
    rw [f1] at h
    rw [f2]
    exact h
  have hp : Ms.print ⟨s, fs, []⟩ Ms.kHead = Ms.print ⟨s, fs, []⟩ [71, 69, 84] := by unfold Ms.print Ms.kind; rw [f1, f2]
  have := Ms.parse_print hr tail
  rw [decide_eq_false h0, ← hp] at this
  exact this
theorem head_parse {s : St.S} {fs : List Fld.F} (h : Ms.right ⟨s, fs, []⟩ Ms.kHead = true) (h0 : s.status ≠ 0) (tail : List UInt8) :
    Ms.parse (Ms.print ⟨s, fs, []⟩ Ms.kHead ++ tail) false Ms.kHead = (⟨s, fs, []⟩, (Ms.print ⟨s, fs, []⟩ Ms.kHead).length, 0) := by
  have := Ms.parse_print h tail
  rw [decide_eq_false h0] at this
  exact this

set_option maxHeartbeats 6400000 in
set_option maxRecDepth 100000 in
theorem mbare_w {Env : World → Prop} (P : Read8 Env) (s : St.S) (fv bv v : Value) (fs : List Fld.F) (x l : List UInt8) (w : World) (hF : FIn w fv fs) (hx : BIn w bv x) (_hxn : NilOk bv) (h : BIn w v l) (hnil : NilOk v) (z4 : s.status ≤ 9223372036854775807) (z5 : s.minor ≤ 9223372036854775807) (hE : Env w) :
    Calls Tryz.prog 8 #[mval s fv bv, v] w fun e w' => e = .returned (.bool true) ∧ Below w.heap.size w w' := by
  have HV := Lib.hid h
  have HNIL := Lib.hid hnil
  have HE := Lib.hid hE
  have HP := Lib.hid P
  have cA := fun (W : World) (hb : Below w.heap.size w W) => mawake_w P W (P.later hE hb)
  have cSm := fun (W : World) (hb : Below w.heap.size w W) => small_w s fv bv fs x Ms.kHead W (hF.later hb) (hx.later hb)
  have HF := Lib.hid (fun (W : World) (hb : Below w.heap.size w W) => hF.later hb)
  obtain ⟨aa, ca, rfl⟩ : ∃ a c, fv = .slice a fs.length c := by obtain ⟨a, c, h, _⟩ := hF; exact ⟨a, c, h⟩
  obtain ⟨ba, bc, rfl⟩ : ∃ a c, bv = .slice a x.length c := by obtain ⟨a, c, h, _⟩ := hx; exact ⟨a, c, h⟩
  obtain ⟨ao, c, rfl, hlc, hc9, _⟩ := h
  obtain ⟨L, hL⟩ : ∃ L, L = l.length := ⟨_, rfl⟩
  obtain ⟨n, hn⟩ : ∃ n, n = fs.length := ⟨_, rfl⟩
  obtain ⟨X, hX⟩ : ∃ X, X = x.length := ⟨_, rfl⟩
  have cSm : ∀ (W : World), Below w.heap.size w W → Calls Tryz.prog 13 #[.agg #[.string (str s.method), .string (str s.target), .int .i64 s.status, .string (str s.reason), .int .i64 s.minor, .slice aa n ca, .slice ba X bc], .string ⟨#[72, 69, 65, 68]⟩] W fun e w' => e = .returned (.bool (smallB s fs x Ms.kHead)) ∧ Below W.heap.size W w' := by rw [hn, hX]; exact cSm
  rw [← hL] at hlc HV HNIL ⊢
  rw [← hn] at HF ⊢
  rw [← hX]
  rw [mval_s]
  have cR : ∀ (W : World), Below w.heap.size w W → Sm s fs x Ms.kHead → Calls Tryz.prog 17 #[.agg #[.string (str s.method), .string (str s.target), .int .i64 s.status, .string (str s.reason), .int .i64 s.minor, .slice aa n ca, .slice none 0 0], .string ⟨#[72, 69, 65, 68]⟩] W fun e w' => e = .returned (.bool (Ms.right ⟨s, fs, []⟩ Ms.kHead)) ∧ Below W.heap.size W w' := fun W hb hs =>
    right_w s (.slice aa n ca) (.slice none 0 0) fs [] Ms.kHead W (HF.out W hb) hs.small (by have := hs.count; omega) (bin_nil W).1 (bin_nil W).2 (by simp) (by decide) (by have := hs.method; omega) (by have := hs.target; omega) (by have := hs.reason; omega)
  have cPr : ∀ (W : World), Below w.heap.size w W → Sm s fs x Ms.kHead → Ms.right ⟨s, fs, []⟩ Ms.kHead = true → Calls Tryz.prog 19 #[.agg #[.string (str s.method), .string (str s.target), .int .i64 s.status, .string (str s.reason), .int .i64 s.minor, .slice aa n ca, .slice none 0 0], .string ⟨#[72, 69, 65, 68]⟩] W fun e w' => e = .returned (.string (str (Ms.print ⟨s, fs, []⟩ Ms.kHead))) ∧ Below W.heap.size W w' := fun W hb hs hr =>
    print_w s (.slice aa n ca) (.slice none 0 0) fs [] Ms.kHead W (HF.out W hb) hs.small (by have := hs.count; omega) (bin_nil W).1 (bin_nil W).2 (by simp) (by decide) (by have := hs.method; omega) (by have := hs.target; omega) (by have := hs.reason; omega) z4 z5 (by have := (right_len hr (by simp)).2.1; omega) (by have := (right_len hr (by simp)).2.2; omega)
  have cPs := fun (u : Value) (W : World) (y m : List UInt8) (hy : y.length ≤ 500000) (hm : m.length ≤ 100) (hu : BIn W u y) (hun : NilOk u) (hb : Below w.heap.size w W) => P.parse u y false m W hy hm hu hun (P.later hE hb)
  obtain ⟨PR, hPR⟩ : ∃ PR, Ms.print ⟨s, fs, []⟩ Ms.kHead = PR := ⟨_, rfl⟩
  have HLP : Ms.right ⟨s, fs, []⟩ Ms.kHead = true → PR.length ≤ 100000 := fun h => by rw [← hPR]; exact (right_len h (by simp)).1
  have hl9 : ∀ {q : Prop}, (¬ (300 : Int) < L → q) → ¬ (300 : Int) < L → q := fun f h => f h
  have HP1 : ¬ (300 : Int) < L → ∀ (u : Value) (W : World), Ms.right ⟨s, fs, []⟩ Ms.kHead = true → s.status ≠ 0 → BIn W u (PR ++ l) → NilOk u → Below w.heap.size w W → Calls Tryz.prog 10 #[u, .bool false, .string ⟨#[72, 69, 65, 68]⟩] W fun e w' => (∃ fa fc ba bc, e = .returned (.tuple #[.agg #[.string (str s.method), .string (str s.target), .int .i64 s.status, .string (str s.reason), .int .i64 s.minor, .slice fa n fc, .slice ba 0 bc], .int .i64 PR.length, .int .i64 0]) ∧ FIn w' (.slice fa n fc) fs ∧ BIn w' (.slice ba 0 bc) [] ∧ NilOk (.slice ba 0 bc)) ∧ Below W.heap.size W w' := fun h3 u W hr hs hu hun hb => by
    have h := cPs u W (PR ++ l) Ms.kHead (by have := HLP hr; rw [List.length_append]; omega) (by decide) hu hun hb
    rw [← hPR, head_parse hr hs l, hPR] at h
    rw [hn]
    exact h
  have HP2 : ¬ (300 : Int) < L → ∀ (u : Value) (W : World), Ms.right ⟨s, fs, []⟩ Ms.kHead = true → s.status ≠ 0 → (s.status < 200 ∨ s.status = 204 ∨ s.status = 304) → BIn W u (PR ++ l) → NilOk u → Below w.heap.size w W → Calls Tryz.prog 10 #[u, .bool false, .string ⟨#[71, 69, 84]⟩] W fun e w' => (∃ fa fc ba bc, e = .returned (.tuple #[.agg #[.string (str s.method), .string (str s.target), .int .i64 s.status, .string (str s.reason), .int .i64 s.minor, .slice fa n fc, .slice ba 0 bc], .int .i64 PR.length, .int .i64 0]) ∧ FIn w' (.slice fa n fc) fs ∧ BIn w' (.slice ba 0 bc) [] ∧ NilOk (.slice ba 0 bc)) ∧ Below W.heap.size W w' := fun h3 u W hr hs hbr hu hun hb => by
    have h := cPs u W (PR ++ l) [71, 69, 84] (by have := HLP hr; rw [List.length_append]; omega) (by decide) hu hun hb
    rw [← hPR, bare_parse hr hs hbr l, hPR] at h
    rw [hn]
    exact h
  have HP3 : ¬ (300 : Int) < L → Ms.right ⟨s, fs, []⟩ Ms.kHead = true → ∃ (r0 r1 : ByteArray) (r2 : Int) (r3 : ByteArray) (r4 : Int) (rn rx rk : Nat) (re : Int) (rf : List Fld.F) (rb : List UInt8), ∀ (u : Value) (W : World), BIn W u (PR ++ l) → NilOk u → Below w.heap.size w W → Calls Tryz.prog 10 #[u, .bool false, .string ⟨#[71, 69, 84]⟩] W fun e w' => (∃ fa fc ba bc, e = .returned (.tuple #[.agg #[.string r0, .string r1, .int .i64 r2, .string r3, .int .i64 r4, .slice fa rn fc, .slice ba rx bc], .int .i64 rk, .int .i64 re]) ∧ FIn w' (.slice fa rn fc) rf ∧ BIn w' (.slice ba rx bc) rb ∧ NilOk (.slice ba rx bc)) ∧ Below W.heap.size W w' := fun h3 hr => 
    ⟨_, _, _, _, _, _, _, _, _, _, _, fun u W hu hun hb => cPs u W (PR ++ l) [71, 69, 84] (by have := HLP hr; rw [List.length_append]; omega) (by decide) hu hun hb⟩
  have cSame : fs.length ≤ 1000000000 → ∀ (fa ba : Option Addr) (fc bc : Nat) (W : World), FIn W (.slice fa n fc) fs → BIn W (.slice ba 0 bc) [] → NilOk (.slice ba 0 bc) → Below w.heap.size w W → Calls Tryz.prog 12 #[.agg #[.string (str s.method), .string (str s.target), .int .i64 s.status, .string (str s.reason), .int .i64 s.minor, .slice fa n fc, .slice ba 0 bc], .agg #[.string (str s.method), .string (str s.target), .int .i64 s.status, .string (str s.reason), .int .i64 s.minor, .slice aa n ca, .slice none 0 0]] W fun e w' => e = .returned (.bool true) ∧ Below W.heap.size W w' := fun hl fa ba fc bc W h1 h2 h3 hb => by
    have h := same_w s s (.slice fa n fc) (.slice ba 0 bc) (.slice aa n ca) (.slice none 0 0) fs fs [] [] W h1 (HF.out W hb) h2 h3 (bin_nil W).1 (bin_nil W).2 hl
    rw [mval_s, mval_s, sameF_self, decide_eq_true (rfl : s = s), decide_eq_true (rfl : ([] : List UInt8) = [])] at h
    exact h
  clear hl9
  simp only [hPR] at cPr
  clear hPR
  have HT : Hid (St.S.status s = s.status) := Lib.hid rfl
  have HSt : Hid (∀ st, s.status = st → s.status = st) := Lib.hid fun _ h => h
  have HSM := fun (h : smallB s fs x Ms.kHead = true) => smallB_sm h z4 z5
  generalize str s.method = a0 at *
  generalize str s.target = a1 at *
  generalize hst : s.status = st at *
  generalize str s.reason = a3 at *
  generalize s.minor = mi at *
  have HS0 := Lib.hid hst
  have HL := Lib.hid hL
  clear hF hx hE P hnil z4 z5 hL hn hX HT HSt hst
  cases hsm : smallB s fs x Ms.kHead with
  | false =>
    rw [hsm] at cSm
    clear hsm HSM
    go_enter Tryz.func8, Tryz.ntmps8
    go_upto_region 1 with fail
    have b0 : (w.alloc (.cells #[.string a0, .string a1, .int .i64 st, .string a3, .int .i64 mi, .slice aa n ca, .slice ba X bc] 28)).heap[w.heap.size]? = some (.cells #[.string a0, .string a1, .int .i64 st, .string a3, .int .i64 mi, .slice aa n ca, .slice ba X bc] 28 (0, 0)) := heap_alloc_new w _
    have hb0 : Below w.heap.size w (w.alloc (.cells #[.string a0, .string a1, .int .i64 st, .string a3, .int .i64 mi, .slice aa n ca, .slice ba X bc] 28)) := (Below.refl _ w).alloc (Nat.le_refl _) _
    generalize w.alloc (.cells #[.string a0, .string a1, .int .i64 st, .string a3, .int .i64 mi, .slice aa n ca, .slice ba X bc] 28) = W0 at *
    obtain ⟨p, hpp⟩ : ∃ p, p = w.heap.size := ⟨_, rfl⟩
    rw [← hpp] at b0 ⊢
    have HPP := Lib.hid hpp
    clear hpp
    go_wp2_with fail
    refine (cA W0 hb0).mono ?_
    rintro e1 w1 ⟨rfl, hb1'⟩
    have b1 := blk_later b0 hb1'
    have hb1 := bt5 hb0 hb1'
    have cS := cSm w1 hb1
    obtain ⟨c0, c1, c2, c3, c4, c5, c6⟩ := set7 b1
    clear b0 hb0 hb1' cSm
    go_wp2_with fail
    refine cS.mono ?_
    rintro e2 w2 ⟨rfl, hb2'⟩
    have b2 := blk_later b1 hb2'
    have hb2 := bt5 hb1 hb2'
    clear c0 c1 c2 c3 c4 c5 c6 b1 hb2' cS hb1
    obtain ⟨c0, c1, c2, c3, c4, c5, c6⟩ := set7 b2
    clear cR cPr cPs HP1 HP2 HP3 HLP cSame
    go_wp2_with fail
    refine (cA w2 hb2).mono ?_
    rintro e3 w3 ⟨rfl, hb3⟩
    have hB := bt5 hb2 hb3
    go_wp2_with fail
    go_ret
    exact ⟨rfl, by first | exact hB | (rw [HPP.out]; exact hB)⟩
  | true =>
    have hsm2 := HSM hsm
    rw [hsm] at cSm
    replace cR := fun W hb => cR W hb hsm2
    replace cPr := fun W hb => cPr W hb hsm2
    replace cSame := cSame (by have := hsm2.count; omega)
    clear hsm HSM hsm2
    by_cases h3 : (300 : Int) < L
    · go_enter Tryz.func8, Tryz.ntmps8
      go_upto_region 1 with fail
      have b0 : (w.alloc (.cells #[.string a0, .string a1, .int .i64 st, .string a3, .int .i64 mi, .slice aa n ca, .slice ba X bc] 28)).heap[w.heap.size]? = some (.cells #[.string a0, .string a1, .int .i64 st, .string a3, .int .i64 mi, .slice aa n ca, .slice ba X bc] 28 (0, 0)) := heap_alloc_new w _
      have hb0 : Below w.heap.size w (w.alloc (.cells #[.string a0, .string a1, .int .i64 st, .string a3, .int .i64 mi, .slice aa n ca, .slice ba X bc] 28)) := (Below.refl _ w).alloc (Nat.le_refl _) _
      generalize w.alloc (.cells #[.string a0, .string a1, .int .i64 st, .string a3, .int .i64 mi, .slice aa n ca, .slice ba X bc] 28) = W0 at *
      obtain ⟨p, hpp⟩ : ∃ p, p = w.heap.size := ⟨_, rfl⟩
      rw [← hpp] at b0 ⊢
      have HPP := Lib.hid hpp
      clear hpp
      go_wp2_with fail
      refine (cA W0 hb0).mono ?_
      rintro e1 w1 ⟨rfl, hb1'⟩
      have b1 := blk_later b0 hb1'
      have hb1 := bt5 hb0 hb1'
      have cS := cSm w1 hb1
      obtain ⟨c0, c1, c2, c3, c4, c5, c6⟩ := set7 b1
      clear b0 hb0 hb1' cSm
      go_wp2_with fail
      refine cS.mono ?_
      rintro e2 w2 ⟨rfl, hb2'⟩
      have b2 := blk_later b1 hb2'
      have hb2 := bt5 hb1 hb2'
      clear c0 c1 c2 c3 c4 c5 c6 b1 hb2' cS hb1
      obtain ⟨c0, c1, c2, c3, c4, c5, c6⟩ := set7 b2
      clear cR cPr cPs HP1 HP2 HP3 HLP cSame
      go_wp2_with fail
      refine (cA w2 hb2).mono ?_
      rintro e3 w3 ⟨rfl, hb3⟩
      have hB := bt5 hb2 hb3
      go_wp2_with fail
      go_ret
      exact ⟨rfl, by first | exact hB | (rw [HPP.out]; exact hB)⟩
    by_cases h4 : st = 0
    · subst h4
      go_enter Tryz.func8, Tryz.ntmps8
      go_upto_region 1 with fail
      have b0 : (w.alloc (.cells #[.string a0, .string a1, .int .i64 0, .string a3, .int .i64 mi, .slice aa n ca, .slice ba X bc] 28)).heap[w.heap.size]? = some (.cells #[.string a0, .string a1, .int .i64 0, .string a3, .int .i64 mi, .slice aa n ca, .slice ba X bc] 28 (0, 0)) := heap_alloc_new w _
      have hb0 : Below w.heap.size w (w.alloc (.cells #[.string a0, .string a1, .int .i64 0, .string a3, .int .i64 mi, .slice aa n ca, .slice ba X bc] 28)) := (Below.refl _ w).alloc (Nat.le_refl _) _
      generalize w.alloc (.cells #[.string a0, .string a1, .int .i64 0, .string a3, .int .i64 mi, .slice aa n ca, .slice ba X bc] 28) = W0 at *
      obtain ⟨p, hpp⟩ : ∃ p, p = w.heap.size := ⟨_, rfl⟩
      rw [← hpp] at b0 ⊢
      have HPP := Lib.hid hpp
      clear hpp
      go_wp2_with fail
      refine (cA W0 hb0).mono ?_
      rintro e1 w1 ⟨rfl, hb1'⟩
      have b1 := blk_later b0 hb1'
      have hb1 := bt5 hb0 hb1'
      have cS := cSm w1 hb1
      obtain ⟨c0, c1, c2, c3, c4, c5, c6⟩ := set7 b1
      clear b0 hb0 hb1' cSm
      go_wp2_with fail
      refine cS.mono ?_
      rintro e2 w2 ⟨rfl, hb2'⟩
      have b2 := blk_later b1 hb2'
      have hb2 := bt5 hb1 hb2'
      clear c0 c1 c2 c3 c4 c5 c6 b1 hb2' cS hb1
      obtain ⟨c0, c1, c2, c3, c4, c5, c6⟩ := set7 b2
      clear cR cPr cPs HP1 HP2 HP3 HLP cSame
      go_wp2_with fail
      refine (cA w2 hb2).mono ?_
      rintro e3 w3 ⟨rfl, hb3⟩
      have hB := bt5 hb2 hb3
      go_wp2_with fail
      go_ret
      exact ⟨rfl, by first | exact hB | (rw [HPP.out]; exact hB)⟩
    replace HP1 := HP1 h3
    replace HP2 := HP2 h3
    replace HP3 := HP3 h3
    have h5 : (st == 0) = false := by simpa using h4
    go_enter Tryz.func8, Tryz.ntmps8
    go_upto_region 1 with fail
    have b0 : (w.alloc (.cells #[.string a0, .string a1, .int .i64 st, .string a3, .int .i64 mi, .slice aa n ca, .slice ba X bc] 28)).heap[w.heap.size]? = some (.cells #[.string a0, .string a1, .int .i64 st, .string a3, .int .i64 mi, .slice aa n ca, .slice ba X bc] 28 (0, 0)) := heap_alloc_new w _
    have hb0 : Below w.heap.size w (w.alloc (.cells #[.string a0, .string a1, .int .i64 st, .string a3, .int .i64 mi, .slice aa n ca, .slice ba X bc] 28)) := (Below.refl _ w).alloc (Nat.le_refl _) _
    generalize w.alloc (.cells #[.string a0, .string a1, .int .i64 st, .string a3, .int .i64 mi, .slice aa n ca, .slice ba X bc] 28) = W0 at *
    obtain ⟨p, hpp⟩ : ∃ p, p = w.heap.size := ⟨_, rfl⟩
    rw [← hpp] at b0 ⊢
    have HPP := Lib.hid hpp
    clear hpp
    go_wp2_with fail
    refine (cA W0 hb0).mono ?_
    rintro e1 w1 ⟨rfl, hb1'⟩
    have b1 := blk_later b0 hb1'
    have hb1 := bt5 hb0 hb1'
    have cS := cSm w1 hb1
    obtain ⟨c0, c1, c2, c3, c4, c5, c6⟩ := set7 b1
    clear b0 hb0 hb1' cSm
    go_wp2_with fail
    refine cS.mono ?_
    rintro e2 w2 ⟨rfl, hb2'⟩
    have b2 := blk_later b1 hb2'
    have hb2 := bt5 hb1 hb2'
    clear c0 c1 c2 c3 c4 c5 c6 b1 hb2' cS hb1
    obtain ⟨c0, c1, c2, c3, c4, c5, c6⟩ := set7 b2
    have fz := freeM b2 6
    go_upto_region 4 with fail
    have b3 := putM b2 (.slice none 0 0)
    have hb3 := hb2.trans (putM_below (W := w2) (g := p) (v := .slice none 0 0) w.heap.size (by have := HPP.out; omega) 6)
    generalize w2.setCell ⟨p, 6, none⟩ (.slice none 0 0) = w3 at *
    clear c0 c1 c2 c3 c4 c5 c6 fz b2 hb2
    have HB3 := Lib.hid hb3
    replace cR := cR w3 hb3
    obtain ⟨c0, c1, c2, c3, c4, c5, c6⟩ := set7 b3
    cases hr : Ms.right ⟨s, fs, []⟩ Ms.kHead with
    | false =>
      rw [hr] at cR
      clear hr cPr cA cPs HP1 HP2 HP3 HLP cSame
      go_wp2_with fail
      refine cR.mono ?_
      rintro e4 w4 ⟨rfl, hb4⟩
      have hB := bt5 HB3.out hb4
      go_wp2_with fail
      go_ret
      exact ⟨rfl, by first | exact hB | (rw [HPP.out]; exact hB)⟩
    | true =>
      rw [hr] at cR
      have hlp := HLP hr
      have cP1 := fun u W e1 e2 e3 => HP1 u W hr h4 e1 e2 e3
      replace cPr := fun W hb => cPr W hb hr
      have hO : ∀ (W : World), ∃ c w', (convert 9 22 (.string (str PR))).run Tryz.prog W = .ok (.slice (some ⟨W.heap.size, 0, none⟩) PR.length c) w' ∧ TxAt w' W.heap.size c PR ∧ Below W.heap.size W w' := fun W => by
        have hh := octets_tx (str PR) W (by rw [str_size]; omega)
        rw [str_size, str_list] at hh
        exact hh
      have hlen : PR.length + l.length ≤ 1000000000 := by have := HL.out; omega
      have hXN : (str PR).size = PR.length := str_size PR
      generalize str PR = XS at *
      by_cases q1 : st < 200
      · have cP2 := fun u W e1 e2 e3 => HP2 u W hr h4 (.inl q1) e1 e2 e3
        clear HP1 HP2 HP3 hr HLP
        go_wp2_with fail
        refine cR.mono ?_
        rintro e4 w4 ⟨rfl, hb4'⟩
        have b4 := blk_later b3 hb4'
        have hb4 := bt5 HB3.out hb4'
        replace cPr := cPr w4 hb4
        clear c0 c1 c2 c3 c4 c5 c6 b3 cR hb4'
        obtain ⟨c0, c1, c2, c3, c4, c5, c6⟩ := set7 b4
        go_wp2_with fail
        refine cPr.mono ?_
        rintro e5 w5 ⟨rfl, hb5'⟩
        have b5 := blk_later b4 hb5'
        have hb5 := bt5 hb4 hb5'
        clear c0 c1 c2 c3 c4 c5 c6 b4 cPr hb5' hb4
        obtain ⟨cc, w6, hcv, hT, hb6'⟩ := hO w5
        have hV5 := HV.out.later hb5
        go_wp2_with (at_builtin; refine appTx hT hb6' (Nat.le_refl _) hV5 HNIL.out hlen rfl (.tmp 40) (.tmp 41) rfl rfl rfl ?_; intro v7 w7 hin7 hn7 hb7')
        have b7 := blk_later b5 hb7'
        have hb7 := bt5 hb5 hb7'
        have cP7 := cP1 v7 w7 hin7 hn7 hb7
        clear hcv hT hb6' hV5 hin7 hn7 hb7' b5 hb5 cP1
        go_wp2_with fail
        refine cP7.mono ?_
        rintro e8 w8 ⟨⟨fa6, fc6, ba6, bc6, rfl, hf6, hx6, hn6⟩, hb8'⟩
        have b8 := blk_later b7 hb8'
        have hb8 := bt5 hb7 hb8'
        clear b7 hb8' hb7 cP7
        go_upto_region 8 with fail
        have y9 : (w8.alloc (.cells #[.string a0, .string a1, .int .i64 st, .string a3, .int .i64 mi, .slice fa6 n fc6, .slice ba6 0 bc6] 28)).heap[w8.heap.size]? = some (.cells #[.string a0, .string a1, .int .i64 st, .string a3, .int .i64 mi, .slice fa6 n fc6, .slice ba6 0 bc6] 28 (0, 0)) := heap_alloc_new w8 _
        have hb9' : Below w8.heap.size w8 (w8.alloc (.cells #[.string a0, .string a1, .int .i64 st, .string a3, .int .i64 mi, .slice fa6 n fc6, .slice ba6 0 bc6] 28)) := (Below.refl _ w8).alloc (Nat.le_refl _) _
        generalize w8.alloc (.cells #[.string a0, .string a1, .int .i64 st, .string a3, .int .i64 mi, .slice fa6 n fc6, .slice ba6 0 bc6] 28) = w9 at *
        generalize w8.heap.size = y at y9 ⊢
        have b9 := blk_later b8 hb9'
        have hf6 := hf6.later hb9'
        have hx6 := hx6.later hb9'
        have hb9 := bt5 hb8 hb9'
        clear b8 hb9' hb8
        obtain ⟨cd, w10, hcv, hT, hb10'⟩ := hO w9
        have hV9 := HV.out.later hb9
        go_wp2_with (at_builtin; refine appTx hT hb10' (Nat.le_refl _) hV9 HNIL.out hlen rfl (.tmp 49) (.tmp 50) rfl rfl rfl ?_; intro v11 w11 hin11 hn11 hb11')
        have b11 := blk_later b9 hb11'
        have y11 := blk_later y9 hb11'
        have hf6 := hf6.later hb11'
        have hx6 := hx6.later hb11'
        have hb11 := bt5 hb9 hb11'
        have cQ := cP2 v11 w11 hin11 hn11 hb11
        clear hcv hT hb10' hV9 hin11 hn11 hb11' b9 y9 hb9 cP2 hO
        go_wp2_with fail
        refine cQ.mono ?_
        rintro e12 w12 ⟨⟨fa9, fc9, ba9, bc9, rfl, hf9, hx9, hn9⟩, hb12'⟩
        have b12 := blk_later b11 hb12'
        have y12 := blk_later y11 hb12'
        have hf6 := hf6.later hb12'
        have hx6 := hx6.later hb12'
        have hb12 := bt5 hb11 hb12'
        clear b11 y11 hb12' hb11 cQ
        go_upto_region 9 with fail
        have z13 : (w12.alloc (.cells #[.string a0, .string a1, .int .i64 st, .string a3, .int .i64 mi, .slice fa9 n fc9, .slice ba9 0 bc9] 28)).heap[w12.heap.size]? = some (.cells #[.string a0, .string a1, .int .i64 st, .string a3, .int .i64 mi, .slice fa9 n fc9, .slice ba9 0 bc9] 28 (0, 0)) := heap_alloc_new w12 _
        have hb13' : Below w12.heap.size w12 (w12.alloc (.cells #[.string a0, .string a1, .int .i64 st, .string a3, .int .i64 mi, .slice fa9 n fc9, .slice ba9 0 bc9] 28)) := (Below.refl _ w12).alloc (Nat.le_refl _) _
        generalize w12.alloc (.cells #[.string a0, .string a1, .int .i64 st, .string a3, .int .i64 mi, .slice fa9 n fc9, .slice ba9 0 bc9] 28) = w13 at *
        generalize w12.heap.size = z at z13 ⊢
        have b13 := blk_later b12 hb13'
        have y13 := blk_later y12 hb13'
        have hf6 := hf6.later hb13'
        have hx6 := hx6.later hb13'
        have hf9 := hf9.later hb13'
        have hx9 := hx9.later hb13'
        have hb13 := bt5 hb12 hb13'
        have cS1 := cSame fa6 ba6 fc6 bc6 w13 hf6 hx6 hn6 hb13
        clear b12 y12 hb13' hb12 hf6 hx6 hn6
        obtain ⟨c0, c1, c2, c3, c4, c5, c6⟩ := set7 b13
        obtain ⟨d0, d1, d2, d3, d4, d5, d6⟩ := set7 y13
        clear y13
        go_wp2_with fail
        refine cS1.mono ?_
        rintro e14 w14 ⟨rfl, hb14'⟩
        have hb14 := bt5 hb13 hb14'
        have b14 := blk_later b13 hb14'
        have z14 := blk_later z13 hb14'
        have cS2 := cSame fa9 ba9 fc9 bc9 w14 (hf9.later hb14') (hx9.later hb14') hn9 hb14
        clear c0 c1 c2 c3 c4 c5 c6 d0 d1 d2 d3 d4 d5 d6 b13 z13 hb14' hb13 hf9 hx9 hn9
        obtain ⟨c0, c1, c2, c3, c4, c5, c6⟩ := set7 b14
        obtain ⟨d0, d1, d2, d3, d4, d5, d6⟩ := set7 z14
        clear b14 z14 cS1 cSame
        go_wp2_with fail
        refine cS2.mono ?_
        rintro e15 w15 ⟨rfl, hb15⟩
        have hB := bt5 hb14 hb15
        go_wp2_with fail
        go_ret
        exact ⟨rfl, by first | exact hB | (rw [HPP.out]; exact hB)⟩
      by_cases q2' : st = 204
      · have cP2 := fun u W e1 e2 e3 => HP2 u W hr h4 (.inr (.inl q2')) e1 e2 e3
        have q2 : (st == 204) = true := by simpa using q2'
        clear HP1 HP2 HP3 hr HLP q2'
        go_wp2_with fail
        refine cR.mono ?_
        rintro e4 w4 ⟨rfl, hb4'⟩
        have b4 := blk_later b3 hb4'
        have hb4 := bt5 HB3.out hb4'
        replace cPr := cPr w4 hb4
        clear c0 c1 c2 c3 c4 c5 c6 b3 cR hb4'
        obtain ⟨c0, c1, c2, c3, c4, c5, c6⟩ := set7 b4
        go_wp2_with fail
        refine cPr.mono ?_
        rintro e5 w5 ⟨rfl, hb5'⟩
        have b5 := blk_later b4 hb5'
        have hb5 := bt5 hb4 hb5'
        clear c0 c1 c2 c3 c4 c5 c6 b4 cPr hb5' hb4
        obtain ⟨cc, w6, hcv, hT, hb6'⟩ := hO w5
        have hV5 := HV.out.later hb5
        go_wp2_with (at_builtin; refine appTx hT hb6' (Nat.le_refl _) hV5 HNIL.out hlen rfl (.tmp 40) (.tmp 41) rfl rfl rfl ?_; intro v7 w7 hin7 hn7 hb7')
        have b7 := blk_later b5 hb7'
        have hb7 := bt5 hb5 hb7'
        have cP7 := cP1 v7 w7 hin7 hn7 hb7
        clear hcv hT hb6' hV5 hin7 hn7 hb7' b5 hb5 cP1
        go_wp2_with fail
        refine cP7.mono ?_
        rintro e8 w8 ⟨⟨fa6, fc6, ba6, bc6, rfl, hf6, hx6, hn6⟩, hb8'⟩
        have b8 := blk_later b7 hb8'
        have hb8 := bt5 hb7 hb8'
        clear b7 hb8' hb7 cP7
        go_upto_region 8 with fail
        have y9 : (w8.alloc (.cells #[.string a0, .string a1, .int .i64 st, .string a3, .int .i64 mi, .slice fa6 n fc6, .slice ba6 0 bc6] 28)).heap[w8.heap.size]? = some (.cells #[.string a0, .string a1, .int .i64 st, .string a3, .int .i64 mi, .slice fa6 n fc6, .slice ba6 0 bc6] 28 (0, 0)) := heap_alloc_new w8 _
        have hb9' : Below w8.heap.size w8 (w8.alloc (.cells #[.string a0, .string a1, .int .i64 st, .string a3, .int .i64 mi, .slice fa6 n fc6, .slice ba6 0 bc6] 28)) := (Below.refl _ w8).alloc (Nat.le_refl _) _
        generalize w8.alloc (.cells #[.string a0, .string a1, .int .i64 st, .string a3, .int .i64 mi, .slice fa6 n fc6, .slice ba6 0 bc6] 28) = w9 at *
        generalize w8.heap.size = y at y9 ⊢
        have b9 := blk_later b8 hb9'
        have hf6 := hf6.later hb9'
        have hx6 := hx6.later hb9'
        have hb9 := bt5 hb8 hb9'
        clear b8 hb9' hb8
        obtain ⟨cd, w10, hcv, hT, hb10'⟩ := hO w9
        have hV9 := HV.out.later hb9
        go_wp2_with (at_builtin; refine appTx hT hb10' (Nat.le_refl _) hV9 HNIL.out hlen rfl (.tmp 49) (.tmp 50) rfl rfl rfl ?_; intro v11 w11 hin11 hn11 hb11')
        have b11 := blk_later b9 hb11'
        have y11 := blk_later y9 hb11'
        have hf6 := hf6.later hb11'
        have hx6 := hx6.later hb11'
        have hb11 := bt5 hb9 hb11'
        have cQ := cP2 v11 w11 hin11 hn11 hb11
        clear hcv hT hb10' hV9 hin11 hn11 hb11' b9 y9 hb9 cP2 hO
        go_wp2_with fail
        refine cQ.mono ?_
        rintro e12 w12 ⟨⟨fa9, fc9, ba9, bc9, rfl, hf9, hx9, hn9⟩, hb12'⟩
        have b12 := blk_later b11 hb12'
        have y12 := blk_later y11 hb12'
        have hf6 := hf6.later hb12'
        have hx6 := hx6.later hb12'
        have hb12 := bt5 hb11 hb12'
        clear b11 y11 hb12' hb11 cQ
        go_upto_region 9 with fail
        have z13 : (w12.alloc (.cells #[.string a0, .string a1, .int .i64 st, .string a3, .int .i64 mi, .slice fa9 n fc9, .slice ba9 0 bc9] 28)).heap[w12.heap.size]? = some (.cells #[.string a0, .string a1, .int .i64 st, .string a3, .int .i64 mi, .slice fa9 n fc9, .slice ba9 0 bc9] 28 (0, 0)) := heap_alloc_new w12 _
        have hb13' : Below w12.heap.size w12 (w12.alloc (.cells #[.string a0, .string a1, .int .i64 st, .string a3, .int .i64 mi, .slice fa9 n fc9, .slice ba9 0 bc9] 28)) := (Below.refl _ w12).alloc (Nat.le_refl _) _
        generalize w12.alloc (.cells #[.string a0, .string a1, .int .i64 st, .string a3, .int .i64 mi, .slice fa9 n fc9, .slice ba9 0 bc9] 28) = w13 at *
        generalize w12.heap.size = z at z13 ⊢
        have b13 := blk_later b12 hb13'
        have y13 := blk_later y12 hb13'
        have hf6 := hf6.later hb13'
        have hx6 := hx6.later hb13'
        have hf9 := hf9.later hb13'
        have hx9 := hx9.later hb13'
        have hb13 := bt5 hb12 hb13'
        have cS1 := cSame fa6 ba6 fc6 bc6 w13 hf6 hx6 hn6 hb13
        clear b12 y12 hb13' hb12 hf6 hx6 hn6
        obtain ⟨c0, c1, c2, c3, c4, c5, c6⟩ := set7 b13
        obtain ⟨d0, d1, d2, d3, d4, d5, d6⟩ := set7 y13
        clear y13
        go_wp2_with fail
        refine cS1.mono ?_
        rintro e14 w14 ⟨rfl, hb14'⟩
        have hb14 := bt5 hb13 hb14'
        have b14 := blk_later b13 hb14'
        have z14 := blk_later z13 hb14'
        have cS2 := cSame fa9 ba9 fc9 bc9 w14 (hf9.later hb14') (hx9.later hb14') hn9 hb14
        clear c0 c1 c2 c3 c4 c5 c6 d0 d1 d2 d3 d4 d5 d6 b13 z13 hb14' hb13 hf9 hx9 hn9
        obtain ⟨c0, c1, c2, c3, c4, c5, c6⟩ := set7 b14
        obtain ⟨d0, d1, d2, d3, d4, d5, d6⟩ := set7 z14
        clear b14 z14 cS1 cSame
        go_wp2_with fail
        refine cS2.mono ?_
        rintro e15 w15 ⟨rfl, hb15⟩
        have hB := bt5 hb14 hb15
        go_wp2_with fail
        go_ret
        exact ⟨rfl, by first | exact hB | (rw [HPP.out]; exact hB)⟩
      have q2 : (st == 204) = false := by simpa using q2'
      by_cases q3' : st = 304
      · have cP2 := fun u W e1 e2 e3 => HP2 u W hr h4 (.inr (.inr q3')) e1 e2 e3
        have q3 : (st == 304) = true := by simpa using q3'
        clear HP1 HP2 HP3 hr HLP q2' q3'
        go_wp2_with fail
        refine cR.mono ?_
        rintro e4 w4 ⟨rfl, hb4'⟩
        have b4 := blk_later b3 hb4'
        have hb4 := bt5 HB3.out hb4'
        replace cPr := cPr w4 hb4
        clear c0 c1 c2 c3 c4 c5 c6 b3 cR hb4'
        obtain ⟨c0, c1, c2, c3, c4, c5, c6⟩ := set7 b4
        go_wp2_with fail
        refine cPr.mono ?_
        rintro e5 w5 ⟨rfl, hb5'⟩
        have b5 := blk_later b4 hb5'
        have hb5 := bt5 hb4 hb5'
        clear c0 c1 c2 c3 c4 c5 c6 b4 cPr hb5' hb4
        obtain ⟨cc, w6, hcv, hT, hb6'⟩ := hO w5
        have hV5 := HV.out.later hb5
        go_wp2_with (at_builtin; refine appTx hT hb6' (Nat.le_refl _) hV5 HNIL.out hlen rfl (.tmp 40) (.tmp 41) rfl rfl rfl ?_; intro v7 w7 hin7 hn7 hb7')
        have b7 := blk_later b5 hb7'
        have hb7 := bt5 hb5 hb7'
        have cP7 := cP1 v7 w7 hin7 hn7 hb7
        clear hcv hT hb6' hV5 hin7 hn7 hb7' b5 hb5 cP1
        go_wp2_with fail
        refine cP7.mono ?_
        rintro e8 w8 ⟨⟨fa6, fc6, ba6, bc6, rfl, hf6, hx6, hn6⟩, hb8'⟩
        have b8 := blk_later b7 hb8'
        have hb8 := bt5 hb7 hb8'
        clear b7 hb8' hb7 cP7
        go_upto_region 8 with fail
        have y9 : (w8.alloc (.cells #[.string a0, .string a1, .int .i64 st, .string a3, .int .i64 mi, .slice fa6 n fc6, .slice ba6 0 bc6] 28)).heap[w8.heap.size]? = some (.cells #[.string a0, .string a1, .int .i64 st, .string a3, .int .i64 mi, .slice fa6 n fc6, .slice ba6 0 bc6] 28 (0, 0)) := heap_alloc_new w8 _
        have hb9' : Below w8.heap.size w8 (w8.alloc (.cells #[.string a0, .string a1, .int .i64 st, .string a3, .int .i64 mi, .slice fa6 n fc6, .slice ba6 0 bc6] 28)) := (Below.refl _ w8).alloc (Nat.le_refl _) _
        generalize w8.alloc (.cells #[.string a0, .string a1, .int .i64 st, .string a3, .int .i64 mi, .slice fa6 n fc6, .slice ba6 0 bc6] 28) = w9 at *
        generalize w8.heap.size = y at y9 ⊢
        have b9 := blk_later b8 hb9'
        have hf6 := hf6.later hb9'
        have hx6 := hx6.later hb9'
        have hb9 := bt5 hb8 hb9'
        clear b8 hb9' hb8
        obtain ⟨cd, w10, hcv, hT, hb10'⟩ := hO w9
        have hV9 := HV.out.later hb9
        go_wp2_with (at_builtin; refine appTx hT hb10' (Nat.le_refl _) hV9 HNIL.out hlen rfl (.tmp 49) (.tmp 50) rfl rfl rfl ?_; intro v11 w11 hin11 hn11 hb11')
        have b11 := blk_later b9 hb11'
        have y11 := blk_later y9 hb11'
        have hf6 := hf6.later hb11'
        have hx6 := hx6.later hb11'
        have hb11 := bt5 hb9 hb11'
        have cQ := cP2 v11 w11 hin11 hn11 hb11
        clear hcv hT hb10' hV9 hin11 hn11 hb11' b9 y9 hb9 cP2 hO
        go_wp2_with fail
        refine cQ.mono ?_
        rintro e12 w12 ⟨⟨fa9, fc9, ba9, bc9, rfl, hf9, hx9, hn9⟩, hb12'⟩
        have b12 := blk_later b11 hb12'
        have y12 := blk_later y11 hb12'
        have hf6 := hf6.later hb12'
        have hx6 := hx6.later hb12'
        have hb12 := bt5 hb11 hb12'
        clear b11 y11 hb12' hb11 cQ
        go_upto_region 9 with fail
        have z13 : (w12.alloc (.cells #[.string a0, .string a1, .int .i64 st, .string a3, .int .i64 mi, .slice fa9 n fc9, .slice ba9 0 bc9] 28)).heap[w12.heap.size]? = some (.cells #[.string a0, .string a1, .int .i64 st, .string a3, .int .i64 mi, .slice fa9 n fc9, .slice ba9 0 bc9] 28 (0, 0)) := heap_alloc_new w12 _
        have hb13' : Below w12.heap.size w12 (w12.alloc (.cells #[.string a0, .string a1, .int .i64 st, .string a3, .int .i64 mi, .slice fa9 n fc9, .slice ba9 0 bc9] 28)) := (Below.refl _ w12).alloc (Nat.le_refl _) _
        generalize w12.alloc (.cells #[.string a0, .string a1, .int .i64 st, .string a3, .int .i64 mi, .slice fa9 n fc9, .slice ba9 0 bc9] 28) = w13 at *
        generalize w12.heap.size = z at z13 ⊢
        have b13 := blk_later b12 hb13'
        have y13 := blk_later y12 hb13'
        have hf6 := hf6.later hb13'
        have hx6 := hx6.later hb13'
        have hf9 := hf9.later hb13'
        have hx9 := hx9.later hb13'
        have hb13 := bt5 hb12 hb13'
        have cS1 := cSame fa6 ba6 fc6 bc6 w13 hf6 hx6 hn6 hb13
        clear b12 y12 hb13' hb12 hf6 hx6 hn6
        obtain ⟨c0, c1, c2, c3, c4, c5, c6⟩ := set7 b13
        obtain ⟨d0, d1, d2, d3, d4, d5, d6⟩ := set7 y13
        clear y13
        go_wp2_with fail
        refine cS1.mono ?_
        rintro e14 w14 ⟨rfl, hb14'⟩
        have hb14 := bt5 hb13 hb14'
        have b14 := blk_later b13 hb14'
        have z14 := blk_later z13 hb14'
        have cS2 := cSame fa9 ba9 fc9 bc9 w14 (hf9.later hb14') (hx9.later hb14') hn9 hb14
        clear c0 c1 c2 c3 c4 c5 c6 d0 d1 d2 d3 d4 d5 d6 b13 z13 hb14' hb13 hf9 hx9 hn9
        obtain ⟨c0, c1, c2, c3, c4, c5, c6⟩ := set7 b14
        obtain ⟨d0, d1, d2, d3, d4, d5, d6⟩ := set7 z14
        clear b14 z14 cS1 cSame
        go_wp2_with fail
        refine cS2.mono ?_
        rintro e15 w15 ⟨rfl, hb15⟩
        have hB := bt5 hb14 hb15
        go_wp2_with fail
        go_ret
        exact ⟨rfl, by first | exact hB | (rw [HPP.out]; exact hB)⟩
      have q3 : (st == 304) = false := by simpa using q3'
      obtain ⟨r0, r1, r2, r3, r4, rn, rx, rk, re, rf, rb, cP2⟩ := HP3 hr
      clear HP1 HP2 HP3 hr HLP q2' q3'
      go_wp2_with fail
      refine cR.mono ?_
      rintro e4 w4 ⟨rfl, hb4'⟩
      have b4 := blk_later b3 hb4'
      have hb4 := bt5 HB3.out hb4'
      replace cPr := cPr w4 hb4
      clear c0 c1 c2 c3 c4 c5 c6 b3 cR hb4'
      obtain ⟨c0, c1, c2, c3, c4, c5, c6⟩ := set7 b4
      go_wp2_with fail
      refine cPr.mono ?_
      rintro e5 w5 ⟨rfl, hb5'⟩
      have b5 := blk_later b4 hb5'
      have hb5 := bt5 hb4 hb5'
      clear c0 c1 c2 c3 c4 c5 c6 b4 cPr hb5' hb4
      obtain ⟨cc, w6, hcv, hT, hb6'⟩ := hO w5
      have hV5 := HV.out.later hb5
      go_wp2_with (at_builtin; refine appTx hT hb6' (Nat.le_refl _) hV5 HNIL.out hlen rfl (.tmp 40) (.tmp 41) rfl rfl rfl ?_; intro v7 w7 hin7 hn7 hb7')
      have b7 := blk_later b5 hb7'
      have hb7 := bt5 hb5 hb7'
      have cP7 := cP1 v7 w7 hin7 hn7 hb7
      clear hcv hT hb6' hV5 hin7 hn7 hb7' b5 hb5 cP1
      go_wp2_with fail
      refine cP7.mono ?_
      rintro e8 w8 ⟨⟨fa6, fc6, ba6, bc6, rfl, hf6, hx6, hn6⟩, hb8'⟩
      have b8 := blk_later b7 hb8'
      have hb8 := bt5 hb7 hb8'
      clear b7 hb8' hb7 cP7
      go_upto_region 8 with fail
      have y9 : (w8.alloc (.cells #[.string a0, .string a1, .int .i64 st, .string a3, .int .i64 mi, .slice fa6 n fc6, .slice ba6 0 bc6] 28)).heap[w8.heap.size]? = some (.cells #[.string a0, .string a1, .int .i64 st, .string a3, .int .i64 mi, .slice fa6 n fc6, .slice ba6 0 bc6] 28 (0, 0)) := heap_alloc_new w8 _
      have hb9' : Below w8.heap.size w8 (w8.alloc (.cells #[.string a0, .string a1, .int .i64 st, .string a3, .int .i64 mi, .slice fa6 n fc6, .slice ba6 0 bc6] 28)) := (Below.refl _ w8).alloc (Nat.le_refl _) _
      generalize w8.alloc (.cells #[.string a0, .string a1, .int .i64 st, .string a3, .int .i64 mi, .slice fa6 n fc6, .slice ba6 0 bc6] 28) = w9 at *
      generalize w8.heap.size = y at y9 ⊢
      have b9 := blk_later b8 hb9'
      have hf6 := hf6.later hb9'
      have hx6 := hx6.later hb9'
      have hb9 := bt5 hb8 hb9'
      clear b8 hb9' hb8
      obtain ⟨cd, w10, hcv, hT, hb10'⟩ := hO w9
      have hV9 := HV.out.later hb9
      go_wp2_with (at_builtin; refine appTx hT hb10' (Nat.le_refl _) hV9 HNIL.out hlen rfl (.tmp 49) (.tmp 50) rfl rfl rfl ?_; intro v11 w11 hin11 hn11 hb11')
      have b11 := blk_later b9 hb11'
      have y11 := blk_later y9 hb11'
      have hf6 := hf6.later hb11'
      have hx6 := hx6.later hb11'
      have hb11 := bt5 hb9 hb11'
      have cQ := cP2 v11 w11 hin11 hn11 hb11
      clear hcv hT hb10' hV9 hin11 hn11 hb11' b9 y9 hb9 cP2 hO
      go_wp2_with fail
      refine cQ.mono ?_
      rintro e12 w12 ⟨⟨fa9, fc9, ba9, bc9, rfl, hf9, hx9, hn9⟩, hb12'⟩
      have b12 := blk_later b11 hb12'
      have y12 := blk_later y11 hb12'
      have hf6 := hf6.later hb12'
      have hx6 := hx6.later hb12'
      have hb12 := bt5 hb11 hb12'
      clear b11 y11 hb12' hb11 cQ
      go_upto_region 9 with fail
      have z13 : (w12.alloc (.cells #[.string r0, .string r1, .int .i64 r2, .string r3, .int .i64 r4, .slice fa9 rn fc9, .slice ba9 rx bc9] 28)).heap[w12.heap.size]? = some (.cells #[.string r0, .string r1, .int .i64 r2, .string r3, .int .i64 r4, .slice fa9 rn fc9, .slice ba9 rx bc9] 28 (0, 0)) := heap_alloc_new w12 _
      have hb13' : Below w12.heap.size w12 (w12.alloc (.cells #[.string r0, .string r1, .int .i64 r2, .string r3, .int .i64 r4, .slice fa9 rn fc9, .slice ba9 rx bc9] 28)) := (Below.refl _ w12).alloc (Nat.le_refl _) _
      generalize w12.alloc (.cells #[.string r0, .string r1, .int .i64 r2, .string r3, .int .i64 r4, .slice fa9 rn fc9, .slice ba9 rx bc9] 28) = w13 at *
      generalize w12.heap.size = z at z13 ⊢
      have b13 := blk_later b12 hb13'
      have y13 := blk_later y12 hb13'
      have hf6 := hf6.later hb13'
      have hx6 := hx6.later hb13'
      have hf9 := hf9.later hb13'
      have hx9 := hx9.later hb13'
      have hb13 := bt5 hb12 hb13'
      have cS1 := cSame fa6 ba6 fc6 bc6 w13 hf6 hx6 hn6 hb13
      clear b12 y12 hb13' hb12 hf6 hx6 hn6
      obtain ⟨c0, c1, c2, c3, c4, c5, c6⟩ := set7 b13
      obtain ⟨d0, d1, d2, d3, d4, d5, d6⟩ := set7 y13
      clear y13
      go_wp2_with fail
      refine cS1.mono ?_
      rintro e14 w14 ⟨rfl, hb14'⟩
      have hb14 := bt5 hb13 hb14'
      have hB := hb14
      clear cS1 cSame hf9 hx9 hn9 b13 z13
      go_wp2_with fail
      go_ret
      exact ⟨rfl, by first | exact hB | (rw [HPP.out]; exact hB)⟩

/-- The same, its arguments as they come in. -/
theorem mbare_c {Env : World → Prop} (P : Read8 Env) (s : St.S) (fv bv : Value) (fs : List Fld.F) (x : List UInt8) (v : Value) (l : List UInt8) (w : World) (hF : FIn w fv fs) (_hn : NilOk fv) (hx : BIn w bv x) (hxn : NilOk bv) (z4 : s.status ≤ 9223372036854775807) (z5 : s.minor ≤ 9223372036854775807) (h : BIn w v l) (hnil : NilOk v) (hE : Env w) :
    Calls Tryz.prog 8 #[mval s fv bv, v] w fun e w' => e = .returned (.bool true) ∧ Below w.heap.size w w' := mbare_w P s fv bv v fs x l w hF hx hxn h hnil z4 z5 hE
end Go.Proofs.YtlbjjeonchcgbaaGreatDoor
