/- Package rules: values by value, the calls that the laws take. -/
import Derived.Test.YtoanelobggledaaGreatDoorVTg
namespace Go.Proofs.YtoanelobggledaaGreatDoor
open Go.RowKit

def Mid (fs : List Fld.F) : Prop := fs.length ≤ 100 ∧ ∀ f ∈ fs, f.1.length ≤ 300 ∧ f.2.length ≤ 500
theorem Mid.small {fs : List Fld.F} (h : Mid fs) : Small fs := ⟨by have := h.1; omega, fun f hf => by have := h.2 f hf; omega⟩
theorem Mid.got {fs : List Fld.F} (h : Mid fs) (nm : List UInt8) : (Fld.get fs nm).length ≤ 100 ∧ ∀ l ∈ Fld.get fs nm, l.length ≤ 500 := by
  have h3 := Fld.get_length fs nm
  exact ⟨by have := h.1; omega, Fld.get_small fun f hf => (h.2 f hf).2⟩
theorem Mid.sub {fs gs : List Fld.F} (h : Mid fs) (hl : gs.length ≤ fs.length) (hs : ∀ f ∈ gs, f ∈ fs) : Mid gs := ⟨Nat.le_trans hl h.1, fun f hf => h.2 f (hs f hf)⟩
theorem Mid.drop {fs : List Fld.F} (h : Mid fs) (mem : List UInt8 → Bool) : Mid (Fld.drop fs mem) := h.sub (Fld.drop_length _ _) fun _ hf => Fld.drop_sub hf
theorem Mid.kept {fs : List Fld.F} (h : Mid fs) : Mid (Rl.kept fs) := by rw [Rl.kept_drop]; exact h.drop _
theorem Mid.of_short {fs : List Fld.F} (h : shortR fs = true) : Mid fs := by
  obtain ⟨h1, h2⟩ := shortR_spec h
  exact ⟨by omega, h2⟩
def UIn (w : World) (v : Value) (us : List Tg.U) : Prop := ∃ ao cap, v = .slice ao us.length cap ∧ (us = [] ∨ ∃ b o, ao = some ⟨b, o, none⟩ ∧ b < w.heap.size ∧ ∀ j (hj : j < us.length), w.cell? ⟨b, o + j * 3, none⟩ = some (.string (str us[j].host)) ∧ w.cell? ⟨b, o + j * 3 + 1, none⟩ = some (.int .i64 us[j].port) ∧ w.cell? ⟨b, o + j * 3 + 2, none⟩ = some (.string (str us[j].path)))
theorem UIn.later {w w' : World} {v : Value} {us : List Tg.U} (h : UIn w v us) (hb : Below w.heap.size w w') : UIn w' v us := by
  obtain ⟨ao, cap, hv, h⟩ := h
  refine ⟨ao, cap, hv, ?_⟩
  rcases h with h | ⟨b, o, h1, h2, h3⟩
  · exact .inl h
  · exact .inr ⟨b, o, h1, Nat.lt_of_lt_of_le h2 hb.size, fun j hj => ⟨by rw [hb.cell (p := ⟨b, o + j * 3, none⟩) h2]; exact (h3 j hj).1, by rw [hb.cell (p := ⟨b, o + j * 3 + 1, none⟩) h2]; exact (h3 j hj).2.1, by rw [hb.cell (p := ⟨b, o + j * 3 + 2, none⟩) h2]; exact (h3 j hj).2.2⟩⟩
def BOk (w : World) (v : Value) (l : List UInt8) : Prop := BIn w v l ∧ NilOk v
theorem BOk.later {w w' : World} {v : Value} {l : List UInt8} (h : BOk w v l) (hb : Below w.heap.size w w') : BOk w' v l := ⟨h.1.later hb, h.2⟩
structure Prog11 (D : List UInt8 → Option Int) (Env : World → Prop) : Prop where
  later : ∀ {w w' : World}, Env w → Below w.heap.size w w' → Env w'
  storable : ∀ (a b c a' b' c' : ByteArray) (st mi st' mi' : Int) (fv bv fv' bv' : Value) (fs fs' : List Fld.F) (w : World), Env w → FIn w fv fs → Sl bv → Mid fs → FIn w fv' fs' → Sl bv' → Mid fs' → a.size ≤ 100 →
    Calls Tryz.prog 12 #[mv a b st c mi fv bv, mv a' b' st' c' mi' fv' bv'] w fun e w' => e = .returned (.bool (Rl.storable D a.data.toList fs st' fs')) ∧ Below w.heap.size w w'
  invalid : ∀ (u : Tg.U) (m : List UInt8) (a b c : ByteArray) (st mi : Int) (fv bv : Value) (fs : List Fld.F) (w : World), Env w → FIn w fv fs → Sl bv → Mid fs → u.host.length ≤ 300 → u.path.length ≤ 1000 → u.port ≤ 9223372036854775807 → m.length ≤ 100 →
    Calls Tryz.prog 32 #[uval u, .string (str m), mv a b st c mi fv bv] w fun e w' => (∃ v, e = .returned v ∧ UIn w' v (Rl.invalid u m st fs)) ∧ Below w.heap.size w w'
  unchanged : ∀ (a b c a' b' c' : ByteArray) (st mi st' mi' : Int) (fv bv fv' bv' : Value) (fs fs' : List Fld.F) (w : World), Env w → FIn w fv fs → Sl bv → Mid fs → FIn w fv' fs' → Sl bv' → Mid fs' → a.size ≤ 100 →
    Calls Tryz.prog 34 #[mv a b st c mi fv bv, mv a' b' st' c' mi' fv' bv'] w fun e w' => e = .returned (.bool (Rl.unchanged D a.data.toList fs st' fs')) ∧ Below w.heap.size w w'
end Go.Proofs.YtoanelobggledaaGreatDoor

namespace Go.Proofs.YtoanelobggledaaGreatDoor
open Go.RowKit

structure Msg where
  a : ByteArray
  b : ByteArray
  c : ByteArray
  st : Int
  mi : Int
  fv : Value
  bv : Value
  fs : List Fld.F
  bl : Nat
def Msg.val (m : Msg) : Value := mv m.a m.b m.st m.c m.mi m.fv m.bv
structure MOk (w : World) (m : Msg) : Prop where
  fin : FIn w m.fv m.fs
  body : ∃ x c, m.bv = .slice x m.bl c
  many : m.fs.length ≤ 9223372036854775807
  long : ∀ f ∈ m.fs, f.1.length ≤ 9223372036854775807 ∧ f.2.length ≤ 9223372036854775807
  blen : m.bl ≤ 9223372036854775807
  alen : m.a.size ≤ 9223372036854775807
  bin : ∃ x, BOk w m.bv x ∧ x.length = m.bl
  nil : NilOk m.fv
  blim : m.b.size ≤ 281474976710656 ∧ m.c.size ≤ 281474976710656
theorem MOk.later {w w' : World} {m : Msg} (h : MOk w m) (hb : Below w.heap.size w w') : MOk w' m := ⟨h.fin.later hb, h.body, h.many, h.long, h.blen, h.alen, h.bin.imp fun _ hx => ⟨hx.1.later hb, hx.2⟩, h.nil, h.blim⟩
def shortB (m : Msg) : Bool := shortR m.fs && decide (m.bl ≤ 1000) && decide (m.a.size ≤ 100)
theorem shortB_spec {m : Msg} (h : shortB m = true) : Mid m.fs ∧ m.bl ≤ 1000 ∧ m.a.size ≤ 100 := by
  unfold shortB at h
  simp only [Bool.and_eq_true, decide_eq_true_eq] at h
  exact ⟨Mid.of_short h.1.1, h.1.2, h.2⟩
theorem all_false {ms : List Msg} {k : Nat} (hk : k < ms.length) (h : shortB ms[k] = false) : ms.all shortB = false := by
  rw [List.all_eq_false]; exact ⟨ms[k], List.getElem_mem hk, by rw [h]; decide⟩
theorem all_true {ms : List Msg} (h : ∀ j (hj : j < ms.length), shortB ms[j] = true) : ms.all shortB = true := by
  rw [List.all_eq_true]; intro m hm
  obtain ⟨j, hj, rfl⟩ := List.getElem_of_mem hm
  exact h j hj
def MRow (w : World) (g : Nat) (ms : List Msg) : Prop := g < w.heap.size ∧ ∀ k (hk : k < ms.length),
  w.cell? ⟨g, k * 7, none⟩ = some (.string ms[k].a) ∧ w.cell? ⟨g, k * 7 + 1, none⟩ = some (.string ms[k].b) ∧ w.cell? ⟨g, k * 7 + 2, none⟩ = some (.int .i64 ms[k].st) ∧ w.cell? ⟨g, k * 7 + 3, none⟩ = some (.string ms[k].c) ∧
  w.cell? ⟨g, k * 7 + 4, none⟩ = some (.int .i64 ms[k].mi) ∧ w.cell? ⟨g, k * 7 + 5, none⟩ = some ms[k].fv ∧ w.cell? ⟨g, k * 7 + 6, none⟩ = some ms[k].bv
theorem MRow.later {w w' : World} {g : Nat} {ms : List Msg} (h : MRow w g ms) (hb : Below w.heap.size w w') : MRow w' g ms := by
  refine ⟨Nat.lt_of_lt_of_le h.1 hb.size, fun k hk => ?_⟩
  obtain ⟨c0, c1, c2, c3, c4, c5, c6⟩ := h.2 k hk
  have e : ∀ i, w'.cell? ⟨g, i, none⟩ = w.cell? ⟨g, i, none⟩ := fun i => hb.cell (p := ⟨g, i, none⟩) h.1
  exact ⟨(e _).trans c0, (e _).trans c1, (e _).trans c2, (e _).trans c3, (e _).trans c4, (e _).trans c5, (e _).trans c6⟩
set_option maxHeartbeats 3200000 in
set_option maxRecDepth 100000 in
theorem short_w (g n : Nat) (ms : List Msg) (w : World) (hn : n = ms.length) (hn2 : n ≤ 100) (hr : MRow w g ms) (hok : ∀ m ∈ ms, MOk w m) :
    Calls Tryz.prog 11 #[.slice (some ⟨g, 0, none⟩) n n] w fun e w' => e = .returned (.bool (ms.all shortB)) ∧ Below w.heap.size w w' := by
  have HN := Lib.hid hn
  have HR := Lib.hid hr
  have HO := Lib.hid hok
  clear hn hr hok
  go_enter Tryz.func11, Tryz.ntmps11
  go_wp2_with fail
  go_loopw [3] (fun i wr => ∃ k : Nat, k ≤ n ∧ i = .int .i64 k ∧ Below w.heap.size w wr ∧ Hid (∀ j (hj : j < ms.length), j < k → shortB ms[j] = true)) (fun i _ => n - (intOf i).toNat)
  case atStart => exact ⟨0, by omega, rfl, Below.refl _ _, Lib.hid (fun j _ h => absurd h (by omega))⟩
  case round =>
    obtain ⟨k, hk9, rfl, hbr, HJ⟩ := hrel
    by_cases hlt : k < n
    case neg =>
      have HF : Hid (ms.all shortB = true) := Lib.hid (all_true fun j hj => HJ.out j hj (by have := HN.out; omega))
      go_wp2_with fail
      go_ret
      exact ⟨by rw [HF.out]; rfl, hbr⟩
    have hkl : k < ms.length := by have := HN.out; omega
    obtain ⟨c0, c1, c2, c3, c4, c5, c6⟩ := (HR.out.later hbr).2 k hkl
    have hm := (HO.out ms[k] (List.getElem_mem hkl)).later hbr
    have HA := Lib.hid (all_false hkl)
    have HJ2 : Hid (shortB ms[k] = true → ∀ j (hj : j < ms.length), j < k + 1 → shortB ms[j] = true) := Lib.hid fun h j hj h1 => by
      by_cases e : j = k
      · subst e; exact h
      · exact HJ.out j hj (by omega)
    generalize ms[k] = m at *
    obtain ⟨a, b, c, st, mi, fv, bv, fs, bl⟩ := m
    obtain ⟨⟨fa, fc, hfv, hfx⟩, ⟨ba, bc, hbv⟩, h1, h2, h3, h4, hx8, hx9, hx7⟩ := hm
    clear hx8 hx9 hx7
    dsimp only at *
    subst hfv hbv
    have HB : Hid (shortB ⟨a, b, c, st, mi, .slice fa fs.length fc, .slice ba bl bc, fs, bl⟩ = (shortR fs && decide (bl ≤ 1000) && decide (a.size ≤ 100))) := Lib.hid rfl
    rw [HB.out] at HA HJ2
    obtain ⟨W, hW⟩ : ∃ W, W = wr.alloc (.cells #[.string a, .string b, .int .i64 st, .string c, .int .i64 mi, .slice fa fs.length fc, .slice ba bl bc] 27) := ⟨_, rfl⟩
    have hbW : Below wr.heap.size wr W := by rw [hW]; exact (Below.refl _ _).alloc (Nat.le_refl _) _
    obtain ⟨d0, d1, d2, d3, d4, d5, d6⟩ := set7' (w := W) (g := wr.heap.size) (by rw [hW]; exact heap_alloc_new wr _)
    have hbw := hbr.trans (hbW.mono hbr.size)
    obtain ⟨fl, hfl⟩ : ∃ fl, fl = fs.length := ⟨_, rfl⟩
    have HFL := Lib.hid hfl
    have HX : Hid (fs = [] ∨ ∃ b o, fa = some ⟨b, o, none⟩ ∧ ∀ j (hj : j < fs.length), W.cell? ⟨b, o + j * 2, none⟩ = some (.string (str fs[j].1)) ∧ W.cell? ⟨b, o + j * 2 + 1, none⟩ = some (.string (str fs[j].2))) := Lib.hid (hfx.imp id fun ⟨b, o, h4, h5, h6⟩ =>
      ⟨b, o, h4, fun j hj => ⟨(hbW.cell (p := ⟨b, o + j * 2, none⟩) h5).trans (h6 j hj).1, (hbW.cell (p := ⟨b, o + j * 2 + 1, none⟩) h5).trans (h6 j hj).2⟩⟩)
    rw [← hfl] at c5 d5 hW h1
    have HL := Lib.hid h2
    clear hfl hfx h2 hbW hbr
    go_upto_region 5 with fail
    rw [← hW]
    clear hW c0 c1 c2 c3 c4 c5 c6
    generalize wr.heap.size = gm at *
    by_cases g1 : 30 < fl
    · have HF : Hid (ms.all shortB = false) := Lib.hid (HA.out (by rw [← shortR_many (by rw [← HFL.out]; exact g1)]; rfl))
      have g1' : (30 : Int) < (fl : Int) := by omega
      clear g1
      go_wp2_with fail
      go_ret
      exact ⟨by rw [HF.out]; rfl, hbw⟩
    have g1' : ¬ (30 : Int) < (fl : Int) := by omega
    by_cases g2 : 1000 < bl
    · have HF : Hid (ms.all shortB = false) := Lib.hid (HA.out (by rw [decide_eq_false (show ¬ bl ≤ 1000 by omega), Bool.and_false, Bool.false_and]))
      have g2' : (1000 : Int) < (bl : Int) := by omega
      clear g2
      go_wp2_with fail
      go_ret
      exact ⟨by rw [HF.out]; rfl, hbw⟩
    have g2' : ¬ (1000 : Int) < (bl : Int) := by omega
    by_cases g3 : 100 < a.size
    · have HF : Hid (ms.all shortB = false) := Lib.hid (HA.out (by rw [decide_eq_false (show ¬ a.size ≤ 100 by omega), Bool.and_false]))
      have g3' : (100 : Int) < (a.size : Int) := by omega
      clear g3
      go_wp2_with fail
      go_ret
      exact ⟨by rw [HF.out]; rfl, hbw⟩
    have g3' : ¬ (100 : Int) < (a.size : Int) := by omega
    have HS : Hid (∀ p, shortR fs = p → (shortR fs && decide (bl ≤ 1000) && decide (a.size ≤ 100)) = p) := Lib.hid fun p h => by
      rw [h, decide_eq_true (show bl ≤ 1000 by omega), decide_eq_true (show a.size ≤ 100 by omega)]; simp
    have hl30 : fl ≤ 30 := by omega
    clear g1 g2 g3
    go_wp2_with fail
    go_loop [5] (fun i => ∃ j : Nat, j ≤ fl ∧ i = .int .i64 j ∧ Hid (∀ q (hq : q < fs.length), q < j → fs[q].1.length ≤ 300 ∧ fs[q].2.length ≤ 500)) (fun i => fl - (intOf i).toNat)
    case atStart => exact ⟨0, by omega, rfl, Lib.hid (fun q _ h => absurd h (by omega))⟩
    case round =>
      obtain ⟨j, hj9, rfl, HT⟩ := hrel
      by_cases hlj : j < fl
      · have jl : j < fs.length := by have := HFL.out; omega
        obtain ⟨bb, oo, hao, hca⟩ := HX.out.resolve_left (fun e => by rw [e] at jl; cases jl)
        subst hao
        obtain ⟨k1, k1'⟩ := hca j jl
        have hz := HL.out fs[j] (List.getElem_mem jl)
        have z1 : (str fs[j].1).size ≤ 9223372036854775807 := by rw [str_size]; exact hz.1
        have z2 : (str fs[j].2).size ≤ 9223372036854775807 := by rw [str_size]; exact hz.2
        clear hca hz
        by_cases e1 : 300 < fs[j].1.length
        · have HF : Hid (ms.all shortB = false) := Lib.hid (HA.out (HS.out false (shortR_long jl (.inl e1)).symm))
          have e1' : (300 : Int) < ((str fs[j].1).size : Int) := by rw [str_size]; omega
          generalize str fs[j].1 = x at k1 e1' z1
          clear e1
          go_wp2_with fail
          go_ret
          exact ⟨by rw [HF.out]; rfl, hbw⟩
        have e1' : ¬ (300 : Int) < ((str fs[j].1).size : Int) := by rw [str_size]; omega
        by_cases e2 : 500 < fs[j].2.length
        · have HF : Hid (ms.all shortB = false) := Lib.hid (HA.out (HS.out false (shortR_long jl (.inr e2)).symm))
          have e2' : (500 : Int) < ((str fs[j].2).size : Int) := by rw [str_size]; omega
          generalize str fs[j].1 = x at k1 e1' z1
          generalize str fs[j].2 = y at k1' e2' z2
          clear e1 e2
          go_wp2_with fail
          go_ret
          exact ⟨by rw [HF.out]; rfl, hbw⟩
        have e2' : ¬ (500 : Int) < ((str fs[j].2).size : Int) := by rw [str_size]; omega
        have HT2 : Hid (∀ q (hq : q < fs.length), q < j + 1 → fs[q].1.length ≤ 300 ∧ fs[q].2.length ≤ 500) := Lib.hid fun q hq h => by
          by_cases e : q = j
          · subst e; omega
          · exact HT.out q hq (by omega)
        generalize str fs[j].1 = x at k1 e1' z1
        generalize str fs[j].2 = y at k1' e2' z2
        clear e1 e2
        go_wp2_with fail
        go_round
        case rel => exact ⟨j + 1, by omega, by go_num, HT2⟩
        case measure => simp [intOf]; omega
      · have HK := Lib.hid (HJ2.out (HS.out true (shortR_all (by rw [← HFL.out]; exact hl30) (fun q hq => HT.out q hq (by have := HFL.out; omega))).symm))
        go_wp2_with fail
        go_roundw
        case rel => exact ⟨k + 1, by omega, by go_num, hbw, HK⟩
        case measure => simp [intOf]; omega
end Go.Proofs.YtoanelobggledaaGreatDoor

namespace Go.Proofs.YtoanelobggledaaGreatDoor
open Go.RowKit

def uriCells (us : List Tg.U) : List Value := us.flatMap fun u => [Value.string (str u.host), .int .i64 u.port, .string (str u.path)]
theorem uriCells_length (us : List Tg.U) : (uriCells us).length = us.length * 3 := by
  unfold uriCells; induction us with
  | nil => rfl
  | cons f r ih => rw [List.flatMap_cons, List.length_append, ih]; simp; omega
theorem uriCells_append (a b : List Tg.U) : uriCells (a ++ b) = uriCells a ++ uriCells b := by unfold uriCells; rw [List.flatMap_append]
theorem uriCells_at (us : List Tg.U) (j : Nat) (h : j < us.length) : (uriCells us)[j * 3]? = some (.string (str us[j].host)) ∧ (uriCells us)[j * 3 + 1]? = some (.int .i64 us[j].port) ∧ (uriCells us)[j * 3 + 2]? = some (.string (str us[j].path)) := by
  induction us generalizing j with
  | nil => simp at h
  | cons f r ih =>
    match j with
    | 0 => exact ⟨rfl, rfl, rfl⟩
    | j + 1 =>
      have := ih j (by simpa using h)
      have e : ∀ i, (uriCells (f :: r))[(j + 1) * 3 + i]? = (uriCells r)[j * 3 + i]? := fun i => by
        rw [show uriCells (f :: r) = [Value.string (str f.host), .int .i64 f.port, .string (str f.path)] ++ uriCells r from rfl, List.getElem?_append_right (by simp; omega)]
        congr 1; simp; omega
      refine ⟨(e 0).trans this.1, (e 1).trans this.2.1, (e 2).trans this.2.2⟩
theorem uris_info : (Tryz.prog.info? 46).map (fun i => (i.zero, i.size, i.bytes)) = some (some (.agg #[.string ⟨#[]⟩, .int .i64 0, .string ⟨#[]⟩]), 3, 40) := by kernel_rfl
theorem UIn.of_row {w : World} {base : Nat} {v : Value} {us : List Tg.U} (h : w.ownsRow base 46 3 v us.length (uriCells us)) : UIn w v us := by
  rcases h.2 with ⟨hv, h0⟩ | ⟨g, cap, cur, hv, hg, hh, h1, h2, h3, h4⟩
  · exact ⟨none, 0, by rw [hv, h0], .inl (List.eq_nil_of_length_eq_zero h0)⟩
  · refine ⟨some ⟨g, 0, none⟩, cap, hv, .inr ⟨g, 0, rfl, lt_of_block hh, fun j hj => ?_⟩⟩
    have h5 : ∀ i, i < us.length * 3 → cur.toList[i]? = (uriCells us)[i]? := fun i hi => by
      have h6 : (cur.toList.take (us.length * 3))[i]? = (uriCells us)[i]? := by rw [h4]
      rw [List.getElem?_take_of_lt hi] at h6
      exact h6
    have h7 := uriCells_at us j hj
    refine ⟨?_, ?_, ?_⟩
    · have h8 := (h5 (j * 3) (by omega)).trans h7.1
      simp only [World.cell?, hh]
      simpa using h8
    · have h8 := (h5 (j * 3 + 1) (by omega)).trans h7.2.1
      simp only [World.cell?, hh]
      simpa using h8
    · have h8 := (h5 (j * 3 + 2) (by omega)).trans h7.2.2
      simp only [World.cell?, hh]
      simpa using h8
def UBuf (W w : World) (v : Value) (us : List Tg.U) : Prop := w.ownsRow W.heap.size 46 3 v us.length (uriCells us) ∧ Below W.heap.size W w
theorem UBuf.after {W w w' : World} {v : Value} {us : List Tg.U} (h : UBuf W w v us) (hb : Below w.heap.size w w') : UBuf W w' v us := ⟨row_below h.1 hb, h.2.trans (hb.mono h.2.size)⟩
theorem UBuf.uin {W w : World} {v : Value} {us : List Tg.U} (h : UBuf W w v us) : UIn w v us := UIn.of_row h.1
theorem UBuf.one (w : World) (u : Tg.U) (cs : Array Value) (hc : cs.toList = uriCells [u]) : UBuf w (w.alloc (.cells cs 46)) (.slice (some ⟨w.heap.size, 0, none⟩) 1 1) [u] := by
  refine ⟨?_, (Below.refl _ w).alloc (Nat.le_refl _) _⟩
  rw [← hc]
  refine World.ownsRow_lit w cs 1 (Nat.le_refl _) (by decide) ?_
  rw [← Array.length_toList, hc, uriCells_length]; rfl
theorem appU {ops : Array Oper} {rest : List Oper} {o : Oper} {a : Act} {Q : Exit → Act → World → Prop} {W w : World} {v : Value} {us : List Tg.U} (h : UBuf W w v us) (u : Tg.U) (hlen : us.length ≤ 1000000000)
    (hgd : o.guard = none) (s x : Operand) (ho : o.op = .call { callee := .builtin .append, args := #[s, x], argTypes := #[47, 47] })
    (s0 s2 : ByteArray) (p : Int) (h0 : s0 = str u.host) (h1 : p = u.port) (h2 : s2 = str u.path) (hs : a.eval s = v) (hx : a.eval x = .slice (some ⟨w.heap.size, 0, none⟩) 1 1)
    (hK : ∀ v' w', UBuf W w' v' (us ++ [u]) → Kept 46 w w' → wpList Tryz.prog ops Q rest (a.put o.dst v') w') : wpList Tryz.prog ops Q (o :: rest) a (w.alloc (.cells #[.string s0, .int .i64 p, .string s2] 46)) := by
  subst h0 h1 h2
  obtain ⟨i0, hi, hz0, hz1, hz2⟩ := info_parts uris_info
  have hA := h.after ((Below.refl _ w).alloc (Nat.le_refl _) (.cells #[.string (str u.host), .int .i64 u.port, .string (str u.path)] 46))
  refine wpList_append_own _ hgd s x _ ho W.heap.size 46 i0 _ 3 40 Tryz.underlying47 hi hz0 hz1 hz2 rfl (by decide) v us.length (uriCells us) hs hA.1 ⟨w.heap.size, 0, none⟩ 1 1 (uriCells [u]) hx rfl ?_ ?_ (by unfold maxLen; omega) (by omega) hA.2.size (fun v' w' h1 h2 _ => ?_)
  · intro j c hj
    match j, hj with
    | 0, hj =>
      simp [uriCells] at hj; subst hj
      show (w.alloc (.cells #[.string (str u.host), .int .i64 u.port, .string (str u.path)] 46)).cell? ⟨w.heap.size, 0 + 0, none⟩ = _
      rw [World.cell?_alloc_at _ _ _ _ rfl]; rfl
    | 1, hj =>
      simp [uriCells] at hj; subst hj
      show (w.alloc (.cells #[.string (str u.host), .int .i64 u.port, .string (str u.path)] 46)).cell? ⟨w.heap.size, 0 + 1, none⟩ = _
      rw [World.cell?_alloc_at _ _ _ _ rfl]; rfl
    | 2, hj =>
      simp [uriCells] at hj; subst hj
      show (w.alloc (.cells #[.string (str u.host), .int .i64 u.port, .string (str u.path)] 46)).cell? ⟨w.heap.size, 0 + 2, none⟩ = _
      rw [World.cell?_alloc_at _ _ _ _ rfl]; rfl
    | j + 3, hj => simp [uriCells] at hj
  · intro c hc; simp [uriCells] at hc; rcases hc with rfl | rfl | rfl <;> rfl
  · refine hK v' w' ⟨?_, hA.2.grown h2 hA.2.size (fun k hk => (hA.1.lt k hk).1)⟩ (kept_append h2 hA.1)
    rw [uriCells_append, List.length_append]; exact h1
end Go.Proofs.YtoanelobggledaaGreatDoor

