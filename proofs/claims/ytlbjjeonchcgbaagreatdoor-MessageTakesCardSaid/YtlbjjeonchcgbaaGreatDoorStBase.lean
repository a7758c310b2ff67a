/- What lies below, out of the texts of the layers under this one: St1, St2, St3, St4, St5, St6. -/
import Derived.Test.YtlbjjeonchcgbaaGreatDoorFdWith
import Derived.Test.YtlbjjeonchcgbaaGreatDoorStMath
import Derived.Test.YtlbjjeonchcgbaaGreatDoorOctBase
import Derived.Laws.Rows
import Derived.Laws.Tables
import Derived.Laws.ResultCell
import Derived.Deep.DeepCutAuto
import Derived.Deep.CutBlock
import Derived.Test.YtlbjjeonchcgbaaGreatDoorQuiet
import Derived.Lib.SlBytesConst
import Derived.Lib.ConvBytes
import Derived.Laws.AppendOwnNone
namespace Go.Proofs.YtlbjjeonchcgbaaGreatDoor
open Go.RowKit

theorem bt5 {a b c : World} (h : Below a.heap.size a b) (h' : Below b.heap.size b c) : Below a.heap.size a c := h.trans (h'.mono h.size)
theorem str_eq {a : ByteArray} {l : List UInt8} (h : a.data.toList = l) : a = str l := by rw [← h, str_of]
theorem app_two (a b : ByteArray) : (a ++ b).data.toList = a.data.toList ++ b.data.toList := by simp
theorem ne_oct (c n : UInt8) (m : Int) (hm : m = n.toNat) (h : c ≠ n) : ((c.toNat : Int) != m) = true ∧ ((c.toNat : Int) == m) = false ∧ ¬ (c.toNat : Int) = m := by
  have h1 : ¬ (c.toNat : Int) = m := fun e => h (UInt8.toNat_inj.1 (by omega))
  have h2 := beq_eq_false_iff_ne.2 h1
  exact ⟨by rw [bne, h2]; rfl, h2, h1⟩
theorem list_no {a : ByteArray} {l : List UInt8} (h : a.data.toList ≠ l) : ¬ a.toList = l ∧ (a.toList == l) = false ∧ (a.toList != l) = true := by
  rw [Lib.toList_data]
  have h2 : (a.data.toList == l) = false := beq_eq_false_iff_ne.2 h
  exact ⟨h, h2, by rw [bne, h2]; rfl⟩

theorem BIn.later {w w' : World} {v : Value} {l : List UInt8} (h : BIn w v l) (hb : Below w.heap.size w w') : BIn w' v l := by
  obtain ⟨ao, cap, hv, h1, h2, h⟩ := h
  refine ⟨ao, cap, hv, h1, h2, ?_⟩
  rcases h with h | ⟨b, o, h1, h2, h3⟩
  · exact .inl h
  · exact .inr ⟨b, o, h1, Nat.lt_of_lt_of_le h2 hb.size, fun j hj => by rw [hb.cell (p := ⟨b, o + j, none⟩) h2]; exact h3 j hj⟩
/-- The first n octets as a text. -/
theorem BIn.text {w : World} {b o cap : Nat} {l : List UInt8} (h : ∀ j (hj : j < l.length), w.cell? ⟨b, o + j, none⟩ = some (.int .u8 (l[j].toNat : Int))) (n : Nat) (hn : n ≤ l.length) :
    (convert 22 9 (.slice (some ⟨b, o, none⟩) n cap)).run Tryz.prog w = .ok (.string (str (l.take n))) w := by
  have hl : (l.take n).length = n := by rw [List.length_take]; omega
  have := run_convert_bytes_back (P := Tryz.prog) w 22 9 5 ⟨b, o, none⟩ cap (l.take n) Tryz.underlying22 Tryz.underlying5 Tryz.underlying9 (fun j hj => by
    rw [Addr.add_lit, h j (by omega)]
    simp)
  rw [hl] at this
  exact this

/-- A first line in memory. -/
def sval (s : St.S) : Value := .agg #[.string (str s.method), .string (str s.target), .int .i64 s.status, .string (str s.reason), .int .i64 s.minor]
theorem sval_s (s : St.S) : sval s = .agg #[.string (str s.method), .string (str s.target), .int .i64 s.status, .string (str s.reason), .int .i64 s.minor] := rfl
theorem set5 {w : World} {g : Nat} {a b c d e : Value} {t : TypeId} (h : w.heap[g]? = some (.cells #[a, b, c, d, e] t (0, 0))) :
    w.cell? ⟨g, 0, none⟩ = some a ∧ w.cell? ⟨g, 1, none⟩ = some b ∧ w.cell? ⟨g, 2, none⟩ = some c ∧ w.cell? ⟨g, 3, none⟩ = some d ∧ w.cell? ⟨g, 4, none⟩ = some e := by
  simp [World.cell?, h]
/-- A line's block, and what came since. -/
structure SAt (w : World) (g : Nat) (W : World) (a b c d e : Value) : Prop where
  cell : W.heap[g]? = some (.cells #[a, b, c, d, e] 25 (0, 0))
  below : Below w.heap.size w W
  ge : w.heap.size ≤ g
theorem SAt.later {w : World} {g : Nat} {W W' : World} {a b c d e : Value} (h : SAt w g W a b c d e) (hb : Below W.heap.size W W') : SAt w g W' a b c d e :=
  ⟨(hb.block _ (lt_of_block h.cell)).trans h.cell, h.below.trans (hb.mono h.below.size), h.ge⟩
theorem SAt.alloc {w : World} {g : Nat} {W : World} {a b c d e : Value} (h : SAt w g W a b c d e) (o : Obj) : SAt w g (W.alloc o) a b c d e := h.later ((Below.refl _ _).alloc (Nat.le_refl _) o)
theorem SAt.start (w : World) (a b c d e : Value) : SAt w w.heap.size (w.alloc (.cells #[a, b, c, d, e] 25)) a b c d e :=
  ⟨heap_alloc_new w _, (Below.refl _ _).alloc (Nat.le_refl _) _, Nat.le_refl _⟩
theorem SAt.fresh {w W : World} (h : Below w.heap.size w W) (a b c d e : Value) : SAt w W.heap.size (W.alloc (.cells #[a, b, c, d, e] 25)) a b c d e :=
  ⟨heap_alloc_new W _, h.alloc h.size _, h.size⟩
theorem SAt.cells {w : World} {g : Nat} {W : World} {a b c d e : Value} (h : SAt w g W a b c d e) :
    W.cell? ⟨g, 0, none⟩ = some a ∧ W.cell? ⟨g, 1, none⟩ = some b ∧ W.cell? ⟨g, 2, none⟩ = some c ∧ W.cell? ⟨g, 3, none⟩ = some d ∧ W.cell? ⟨g, 4, none⟩ = some e := set5 h.cell
/-- A line is stored into a block: whole, in one step. -/
theorem stS {ops : Array Oper} {rest : List Oper} {o : Oper} {a : Act} {Q : Exit → Act → World → Prop} {w0 W : World} {g : Nat} {x y z u v : Value} (h : SAt w0 g W x y z u v)
    (hgd : o.guard = none) (px py : Operand) (ho : o.op = .store 25 px py) (x' y' : ByteArray) (z' : Int) (u' : ByteArray) (v' : Int) (hx : a.eval px = .pointer (some ⟨g, 0, none⟩)) (hy : a.eval py = .agg #[.string x', .string y', .int .i64 z', .string u', .int .i64 v'])
    (hK : ∀ W', SAt w0 g W' (.string x') (.string y') (.int .i64 z') (.string u') (.int .i64 v') → (∀ k, k ≠ g → W'.heap[k]? = W.heap[k]?) → wpList Tryz.prog ops Q rest (a.put o.dst undef) W') : wpList Tryz.prog ops Q (o :: rest) a W := by
  refine wpList_store_row hgd 25 px py ho g #[.string x', .string y', .int .i64 z', .string u', .int .i64 v'] hx hy 25 #[x, y, z, u, v] h.cell (by kernel_rfl) rfl (by simp [Value.oneCell']) (hK _ ⟨?_, ?_, h.ge⟩ ?_)
  · have hlt := lt_of_block h.cell
    simp [World.setRow, Array.getElem?_modify, h.cell]
  · refine h.below.trans ⟨rfl, rfl, rfl, by simp [World.setRow], fun k hk => ?_⟩
    have hne : g ≠ k := by have := h.ge; omega
    simp [World.setRow, Array.getElem?_modify, hne]
  · intro k hk
    simp [World.setRow, Array.getElem?_modify, hk.symm]
/-- A line is loaded. -/
theorem ldS {ops : Array Oper} {rest : List Oper} {o : Oper} {a : Act} {Q : Exit → Act → World → Prop} {W : World} {g : Nat} {x y z u v : Value} (h : W.heap[g]? = some (.cells #[x, y, z, u, v] 25 (0, 0)))
    (hgd : o.guard = none) (px : Operand) (ho : o.op = .load 25 px) (hx : a.eval px = .pointer (some ⟨g, 0, none⟩))
    (hK : wpList Tryz.prog ops Q rest (a.put o.dst (.agg #[x, y, z, u, v])) W) : wpList Tryz.prog ops Q (o :: rest) a W :=
  wpList_load_row hgd 25 px ho g hx 25 #[x, y, z, u, v] (0, 0) _ h Tryz.underlying25 rfl (by kernel_rfl) hK
theorem results_cell_two {fn : Func} {p u v : Tmp} {ty : TypeId} (h : fn.results = #[.cell p ty, .tmp u, .tmp v]) (tmps : Array Value) (P : Program) (w : World) :
    (results fn tmps).run P w =
      ((asAddr (tmps.getD p undef)).run P w).andThen fun a w₁ => ((loadVar ty a).run P w₁).andThen fun x w₂ => .ok (.tuple #[x, tmps.getD u undef, tmps.getD v undef]) w₂ := by
  simp only [results, h]
  simp [Sem.run_bind, Result.andThen]
/-- A line and two things more are handed back. -/
theorem ret_start {fn : Func} {p u v : Tmp} (h : fn.results = #[.cell p 25, .tmp u, .tmp v]) {R : Ending → World → Prop} {a : Act} {w : World} (g : Nat) (x1 x2 x3 x4 x5 : Value)
    (hp : a.tmps.getD p undef = .pointer (some ⟨g, 0, none⟩)) (hg : w.heap[g]? = some (.cells #[x1, x2, x3, x4, x5] 25 (0, 0))) (hd : a.defers = []) (hR : R (.returned (.tuple #[.agg #[x1, x2, x3, x4, x5], a.tmps.getD u undef, a.tmps.getD v undef])) w) : bodyPost Tryz.prog fn R .ret a w := by
  refine bodyPost_ret (v := .tuple #[.agg #[x1, x2, x3, x4, x5], a.tmps.getD u undef, a.tmps.getD v undef]) ?_ hd hR
  have e := run_loadVar_row (P := Tryz.prog) w g 25 25 #[x1, x2, x3, x4, x5] (0, 0) _ hg Tryz.underlying25 rfl (by kernel_rfl)
  rw [results_cell_two h, hp]
  simp [Result.andThen, asAddr, e]
/-- A line, how many octets, an error. -/
def sres (x : St.S × Int × Int) : Value := .tuple #[sval x.1, .int .i64 x.2.1, .int .i64 x.2.2]
theorem sres_s (s : St.S) (n e : Int) : sres (s, n, e) = .tuple #[.agg #[.string (str s.method), .string (str s.target), .int .i64 s.status, .string (str s.reason), .int .i64 s.minor], .int .i64 n, .int .i64 e] := rfl
theorem guard_st (op : BinOp) (hop : op = .eql ∨ op = .neq) (x y : Nat) (c d : St.S) (w : World) : (eqGuard op 25 (.tmp x) (.tmp y) (sval c) (sval d)).run Tryz.prog w = .ok () w := by
  rcases hop with rfl | rfl
  · kernel_rfl
  · kernel_rfl
theorem str_beq (a b : List UInt8) : ((str a).toList == (str b).toList) = decide (a = b) := by rw [str_toList, str_toList, Bool.eq_iff_iff, beq_iff_eq, decide_eq_true_iff]
theorem eql_st (c d : St.S) (w : World) : (binOp .eql 25 (sval c) (sval d)).run Tryz.prog w = .ok (.bool (decide (c = d))) w := by
  obtain ⟨a0, a1, a2, a3, a4⟩ := c
  obtain ⟨b0, b1, b2, b3, b4⟩ := d
  unfold sval
  have e0 := str_beq a0 b0
  have e1 := str_beq a1 b1
  have e3 := str_beq a3 b3
  simp only [St.S.mk.injEq]
  generalize str a0 = s0 at *
  generalize str a1 = s1 at *
  generalize str a3 = s3 at *
  generalize str b0 = t0 at *
  generalize str b1 = t1 at *
  generalize str b3 = t3 at *
  go_simp
  (repeat' split) <;> simp_all
end Go.Proofs.YtlbjjeonchcgbaaGreatDoor

namespace Go.Proofs.YtlbjjeonchcgbaaGreatDoor
open Go.RowKit

/-- Where the first octet d stands. -/
theorem upto_facts (d : UInt8) (s : ByteArray) : ∃ N, N = St.upto d s.data.toList ∧ N ≤ s.size ∧ (∀ k (hk : k < s.size), k < N → s[k] ≠ d) ∧ (∀ hk : N < s.size, s[N] = d) := by
  have hz : s.data.toList.length = s.size := by simp
  have hle := St.upto_le d s.data.toList
  refine ⟨_, rfl, by omega, ?_, ?_⟩
  · intro k hk h
    refine St.upto_take d s.data.toList s[k] ?_
    have h1 := Lib.data_getElem? s k hk
    refine List.mem_of_getElem? (i := k) ?_
    rw [List.getElem?_take_of_lt h, h1]
  · intro hk
    have h := St.upto_drop d s.data.toList (by omega)
    have h1 := Lib.data_getElem? s _ hk
    have h2 : (s.data.toList.drop (St.upto d s.data.toList))[0]? = some d := by rw [h]; rfl
    rw [List.getElem?_drop, Nat.add_zero, h1] at h2
    exact Option.some.inj h2

set_option maxHeartbeats 800000 in
theorem rspace_s (s : ByteArray) (w : World) (hs : s.size ≤ 1000000) :
    Calls Tryz.prog 53 #[.string s] w fun e w' => e = .returned (.int .i64 (St.upto 32 s.data.toList)) ∧ w = w' := by
  obtain ⟨N, hN, f1, f2, f3⟩ := upto_facts 32 s
  rw [← hN]
  have F2 := Lib.hid f2
  have F3 := Lib.hid f3
  clear f2 f3 hN
  go_enter Tryz.func53, Tryz.ntmps53
  go_wp2_with fail
  go_loop [3] (fun i => ∃ k : Nat, k ≤ N ∧ i = .int .i64 k) (fun i => N - (intOf i).toNat)
  case atStart => exact ⟨0, by omega, rfl⟩
  case round =>
    obtain ⟨k, hk, rfl⟩ := hrel
    have hk0 : (0 : Int) ≤ k := by omega
    by_cases hlt : k < N
    · have hks : k < s.size := by omega
      have hki : (k : Int) < s.size := by omega
      obtain ⟨b1, b2, b3⟩ := ne_oct s[k] 32 32 rfl (F2.out k hks hlt)
      go_wp2_with fail
      go_round
      case rel => exact ⟨k + 1, by omega, by go_num⟩
      case measure => simp [intOf]; omega
    · obtain rfl : k = N := by omega
      by_cases hks : k < s.size
      · have hki : (k : Int) < s.size := by omega
        have i32 : (s[k].toNat : Int) = 32 := by rw [F3.out hks]; rfl
        go_wp2_with fail
        go_ret
        exact ⟨rfl, rfl⟩
      · have hki : ¬ ((k : Int) < s.size) := by omega
        go_wp2_with fail
        go_ret
        exact ⟨rfl, rfl⟩

set_option maxHeartbeats 800000 in
theorem rminor_s (s : ByteArray) (w : World) :
    Calls Tryz.prog 51 #[.string s] w fun e w' => e = .returned (.int .i64 (St.minorOf s.data.toList)) ∧ w = w' := by
  by_cases h0 : s.data.toList = St.http0
  · have HV : Hid (St.minorOf s.data.toList = 0) := by unfold St.minorOf; rw [if_pos h0]; exact Lib.hid rfl
    obtain rfl : s = ⟨#[72, 84, 84, 80, 47, 49, 46, 48]⟩ := str_eq h0
    clear h0
    go_enter Tryz.func51, Tryz.ntmps51
    go_wp2_with fail
    go_ret
    exact ⟨ret_int HV.out.symm, rfl⟩
  · by_cases h1 : s.data.toList = St.http1
    · have HV : Hid (St.minorOf s.data.toList = 1) := by unfold St.minorOf; rw [if_neg h0, if_pos h1]; exact Lib.hid rfl
      obtain rfl : s = ⟨#[72, 84, 84, 80, 47, 49, 46, 49]⟩ := str_eq h1
      clear h0 h1
      go_enter Tryz.func51, Tryz.ntmps51
      go_wp2_with fail
      go_ret
      exact ⟨ret_int HV.out.symm, rfl⟩
    · have HV : Hid (St.minorOf s.data.toList = -1) := by unfold St.minorOf; rw [if_neg h0, if_neg h1]; exact Lib.hid rfl
      obtain ⟨n1, n2, n3⟩ := list_no (a := s) (l := [72, 84, 84, 80, 47, 49, 46, 48]) h0
      obtain ⟨m1, m2, m3⟩ := list_no (a := s) (l := [72, 84, 84, 80, 47, 49, 46, 49]) h1
      clear h0 h1
      go_enter Tryz.func51, Tryz.ntmps51
      go_wp2_with fail
      go_ret
      exact ⟨ret_int HV.out.symm, rfl⟩

theorem vis_int (c : UInt8) : St.vis c = (decide (33 ≤ (c.toNat : Int)) && decide ((c.toNat : Int) ≤ 126)) := by
  unfold St.vis
  have h1 : (33 ≤ c) ↔ (33 ≤ (c.toNat : Int)) := by rw [UInt8.le_iff_toNat_le]; have : (33 : UInt8).toNat = 33 := rfl; omega
  have h2 : (c ≤ 126) ↔ ((c.toNat : Int) ≤ 126) := by rw [UInt8.le_iff_toNat_le]; have : (126 : UInt8).toNat = 126 := rfl; omega
  rw [decide_eq_decide.2 h1, decide_eq_decide.2 h2]
set_option maxHeartbeats 1600000 in
theorem rvisible_s (s : ByteArray) (w : World) (hs : s.size ≤ 1000000) :
    Calls Tryz.prog 55 #[.string s] w fun e w' => e = .returned (.bool (St.visible s.data.toList)) ∧ w = w' := by
  have HR : Hid (St.visible s.data.toList = (decide (0 < s.size) && Oct.allOf St.vis s.data.toList)) := by
    have : s.data.toList.isEmpty = !decide (0 < s.size) := by
      rw [Lib.size_eq]
      cases s.data.toList <;> simp
    unfold St.visible
    rw [this, Bool.not_not]; exact Lib.hid rfl
  go_enter Tryz.func55, Tryz.ntmps55
  go_wp2_with fail
  go_loop [3] (fun i => ∃ k : Nat, k ≤ s.size ∧ i = .int .i64 k ∧ Hid (Oct.allOf St.vis (s.data.toList.take k) = true)) (fun i => s.size - (intOf i).toNat)
  case atStart => exact ⟨0, by omega, rfl, Lib.hid rfl⟩
  case round =>
    obtain ⟨k, hk, rfl, HA⟩ := hrel
    by_cases hlt : k < s.size
    · have hki : (k : Int) < s.size := by omega
      have HN := Lib.hid (Oct.all_snoc St.vis s k hlt)
      have HM := Lib.hid (Oct.all_miss St.vis s k hlt)
      have HI := Lib.hid (vis_int s[k])
      have hc := s[k].toNat_lt
      have hr : (s[k].toNat : Int) < 33 ∨ (33 ≤ (s[k].toNat : Int) ∧ (s[k].toNat : Int) ≤ 126) ∨ 126 < (s[k].toNat : Int) := by omega
      rcases hr with h1 | ⟨h1, h2⟩ | h1
      · have HF : Hid (St.visible s.data.toList = false) := by
          rw [HR.out, HM.out (by rw [HI.out, decide_eq_false (by omega), Bool.false_and]), Bool.and_false]; exact Lib.hid rfl
        clear HN HM HI
        go_wp2_with fail
        go_ret
        exact ⟨ret_bool HF.out.symm, rfl⟩
      · have HA2 : Hid (Oct.allOf St.vis (s.data.toList.take (k + 1)) = true) := by
          rw [HN.out, HA.out, HI.out, decide_eq_true h1, decide_eq_true h2]; exact Lib.hid rfl
        clear HN HM HI
        go_wp2_with fail
        go_round
        case rel => exact ⟨k + 1, by omega, by go_num, HA2⟩
        case measure => simp [intOf]; omega
      · have HF : Hid (St.visible s.data.toList = false) := by
          rw [HR.out, HM.out (by rw [HI.out, decide_eq_false (p := (s[k].toNat : Int) ≤ 126) (by omega), Bool.and_false]), Bool.and_false]; exact Lib.hid rfl
        have h33 : ¬ ((s[k].toNat : Int) < 33) := by omega
        clear HN HM HI
        go_wp2_with fail
        go_ret
        exact ⟨ret_bool HF.out.symm, rfl⟩
    · have hki : ¬ ((k : Int) < s.size) := by omega
      have HE := Lib.hid (Oct.take_all s k (by omega))
      have HF : Hid (St.visible s.data.toList = decide (0 < s.size)) := by
        rw [HR.out, ← HE.out, HA.out, Bool.and_true]; exact Lib.hid rfl
      clear HE
      by_cases h0 : 0 < s.size
      · have h0i : (0 : Int) < s.size := by omega
        have HG : Hid (St.visible s.data.toList = true) := by rw [HF.out, decide_eq_true h0]; exact Lib.hid rfl
        go_wp2_with fail
        go_ret
        exact ⟨ret_bool HG.out.symm, rfl⟩
      · have h0i : ¬ (0 : Int) < s.size := by omega
        have HG : Hid (St.visible s.data.toList = false) := by rw [HF.out, decide_eq_false h0]; exact Lib.hid rfl
        go_wp2_with fail
        go_ret
        exact ⟨ret_bool HG.out.symm, rfl⟩

/-- What the document's line answers. -/
def lres (x : List UInt8 × Int × Int) : Value := .tuple #[.string (str x.1), .int .i64 x.2.1, .int .i64 x.2.2]
theorem list_upto (l : List UInt8) : (∀ k (hk : k < l.length), k < St.upto 10 l → l[k] ≠ 10) ∧ (∀ hk : St.upto 10 l < l.length, l[St.upto 10 l] = 10) := by
  constructor
  · intro k hk h
    refine St.upto_take 10 l l[k] ?_
    refine List.mem_of_getElem? (i := k) ?_
    rw [List.getElem?_take_of_lt h, List.getElem?_eq_getElem hk]
  · intro hk
    have h := St.upto_drop 10 l hk
    have h2 : (l.drop (St.upto 10 l))[0]? = some 10 := by rw [h]; rfl
    rw [List.getElem?_drop, Nat.add_zero, List.getElem?_eq_getElem hk] at h2
    exact Option.some.inj h2

set_option maxHeartbeats 3200000 in
set_option maxRecDepth 100000 in
theorem rline_w (v : Value) (l : List UInt8) (most : Nat) (w : World) (hl : l.length ≤ 1000000) (hm : most ≤ 1000000) (h : BIn w v l) :
    Calls Tryz.prog 50 #[v, .int .i64 most] w fun e w' => e = .returned (lres (St.line most l)) ∧ w = w' := by
  obtain ⟨ao, cap, rfl, hlc, hc9, hg⟩ := h
  have hm0 : (0 : Int) ≤ most := by omega
  obtain ⟨U, hU⟩ : ∃ U, U = St.upto 10 l := ⟨_, rfl⟩
  have hUl : U ≤ l.length := by rw [hU]; exact St.upto_le 10 l
  have HV : Hid (St.line most l = if U < l.length ∧ U ≤ most then if 1 ≤ U ∧ l[U - 1]? = some 13 then (l.take (U - 1), ((U + 1 : Nat) : Int), 0) else ([], 0, 10) else if l.length ≤ most then ([], 0, 11) else ([], 0, 12)) := by
    rw [hU]; exact Lib.hid rfl
  rcases hg with rfl | ⟨b, o, rfl, hb, hcell⟩
  · have HW : Hid (St.line most [] = ([], 0, 11)) := by rw [HV.out, if_neg (by simp), if_pos (by simp)]; exact Lib.hid rfl
    clear HV hU hUl
    go_enter Tryz.func50, Tryz.ntmps50
    go_wp2_with fail
    refine wp_loop_rounds 1 ?_
    rw [rounds_succ]
    go_wp2_with fail
    go_ret3
    exact ⟨by rw [HW.out]; rfl, rfl⟩
  · obtain ⟨u1, u2⟩ := list_upto l
    have F1 : Hid (∀ k (hk : k < l.length), k < U → l[k] ≠ 10) := by rw [hU]; exact Lib.hid u1
    have F2 : Hid (∀ k (hk : k < l.length), k = U → l[k] = 10) := Lib.hid (by intro k hk e; subst e; subst hU; exact u2 hk)
    have HT := Lib.hid (fun n (hn : n ≤ l.length) => BIn.text (cap := cap) hcell n hn)
    obtain ⟨L, hL⟩ : ∃ L, L = l.length := ⟨_, rfl⟩
    have HC : Hid (∀ j (hj : j < l.length), w.cell? ⟨b, o + j, none⟩ = some (.int .u8 (l[j].toNat : Int))) := Lib.hid hcell
    have HL := Lib.hid hL
    rw [← hL] at hl hlc hUl
    rw [show l.length = L from hL.symm]
    clear hU u1 u2 hcell hL
    go_enter Tryz.func50, Tryz.ntmps50
    go_wp2_with fail
    go_loop [7] (fun i => ∃ k : Nat, k ≤ U ∧ k ≤ most + 1 ∧ i = .int .i64 k) (fun i => most + 1 - (intOf i).toNat)
    case atStart => exact ⟨0, by omega, by omega, rfl⟩
    case round =>
      obtain ⟨k, hkU, hkm, rfl⟩ := hrel
      have hk0 : (0 : Int) ≤ k := by omega
      by_cases hin : k < L ∧ k ≤ most
      · obtain ⟨hkL, hkM⟩ := hin
        have hki : (k : Int) < L := by omega
        have hkmi : (k : Int) ≤ most := by omega
        have hkl : k < l.length := by rw [← HL.out]; exact hkL
        have hck := HC.out k hkl
        by_cases hlt : k < U
        · obtain ⟨b1, b2, b3⟩ := ne_oct l[k] 10 10 rfl (F1.out k hkl hlt)
          go_wp2_with fail
          go_round
          case rel => exact ⟨k + 1, by omega, by omega, by go_num⟩
          case measure => simp [intOf]; omega
        · obtain rfl : k = U := by omega
          have i10 : (l[k].toNat : Int) = 10 := by rw [F2.out k hkl rfl]; rfl
          rw [i10] at hck
          by_cases hk1 : k = 0
          · subst hk1
            have HW : Hid (St.line most l = ([], 0, 10)) := by rw [HV.out, if_pos ⟨hkl, by omega⟩, if_neg (by omega)]; exact Lib.hid rfl
            rw [Nat.add_zero] at hck
            clear HV F1 F2 HT HC i10
            go_wp2_with fail
            go_ret3
            exact ⟨by rw [HW.out]; rfl, rfl⟩
          · obtain ⟨j, hj⟩ : ∃ j, k = j + 1 := ⟨k - 1, by omega⟩
            have hjl : j < l.length := by omega
            have hcj := HC.out j hjl
            have hb0 : ((k : Int) == 0) = false := beq_eq_false_iff_ne.2 (by omega)
            have hw1 : IntKind.i64.wrap ((k : Int) - 1) = (j : Int) := by rw [IntKind.wrap_i64]; omega
            have hw2 : (k : Int) - 1 = (j : Int) := by omega
            have hw3 : IntKind.i64.wrap (j : Int) = (j : Int) := by rw [IntKind.wrap_i64]; omega
            have hj0 : (0 : Int) ≤ j := by omega
            have hji : (j : Int) < L := by have := HL.out; omega
            have hjc : (j : Int) ≤ cap := by omega
            have hge : l[k - 1]? = some l[j] := by rw [hj, Nat.add_sub_cancel, List.getElem?_eq_getElem hjl]
            by_cases h13 : l[j] = 13
            · have HW : Hid (St.line most l = (l.take j, ((k + 1 : Nat) : Int), 0)) := by
                rw [HV.out, if_pos ⟨hkl, by omega⟩, if_pos ⟨by omega, by rw [hge, h13]⟩, hj, Nat.add_sub_cancel]; exact Lib.hid rfl
              have i13 : (l[j].toNat : Int) = 13 := by rw [h13]; rfl
              rw [i13] at hcj
              have hT := HT.out j (by omega)
              have HWV : Hid (lres (St.line most l) = .tuple #[.string (str (l.take j)), .int .i64 ((k : Int) + 1), .int .i64 0]) := by
                rw [HW.out]; exact Lib.hid (by show Value.tuple #[_, .int .i64 ((k + 1 : Nat) : Int), _] = _; rw [Int.natCast_add]; rfl)
              generalize str (l.take j) = T at *
              clear HV F1 F2 HT HC i10 i13 HW hge h13 hj
              go_wp2_with fail
              go_ret3
              exact ⟨by rw [HWV.out]; rfl, rfl⟩
            · have HW : Hid (St.line most l = ([], 0, 10)) := by
                rw [HV.out, if_pos ⟨hkl, by omega⟩, if_neg (by rw [hge]; rintro ⟨_, e⟩; exact h13 (Option.some.inj e))]; exact Lib.hid rfl
              obtain ⟨b1, b2, b3⟩ := ne_oct l[j] 13 13 rfl h13
              clear HV F1 F2 HT HC i10 hge h13 hj
              go_wp2_with fail
              go_ret3
              exact ⟨by rw [HW.out]; rfl, rfl⟩
      · by_cases hLm : L ≤ most
        · have hkL : k = L := by omega
          have HW : Hid (St.line most l = ([], 0, 11)) := by rw [HV.out, if_neg (by have := HL.out; omega), if_pos (by rw [← HL.out]; exact hLm)]; exact Lib.hid rfl
          have hki : ¬ ((k : Int) < L) := by omega
          have hLi : (L : Int) ≤ most := by omega
          clear HV F1 F2 HT HC hkL hin
          go_wp2_with fail
          go_ret3
          exact ⟨by rw [HW.out]; rfl, rfl⟩
        · have HW : Hid (St.line most l = ([], 0, 12)) := by rw [HV.out, if_neg (by have := HL.out; omega), if_neg (by rw [← HL.out]; exact hLm)]; exact Lib.hid rfl
          have hLi : ¬ (L : Int) ≤ most := by omega
          by_cases hkL : k < L
          · have hki : (k : Int) < L := by omega
            have hkmi : ¬ (k : Int) ≤ most := by omega
            clear HV F1 F2 HT HC hin
            go_wp2_with fail
            go_ret3
            exact ⟨by rw [HW.out]; rfl, rfl⟩
          · have hki : ¬ ((k : Int) < L) := by omega
            clear HV F1 F2 HT HC hin
            go_wp2_with fail
            go_ret3
            exact ⟨by rw [HW.out]; rfl, rfl⟩
end Go.Proofs.YtlbjjeonchcgbaaGreatDoor

namespace Go.Proofs.YtlbjjeonchcgbaaGreatDoor
open Go.RowKit

theorem nonempty {a : ByteArray} (h : ¬ a = ⟨#[]⟩) : ¬ a.toList = [] ∧ (a.toList == []) = false ∧ (a.toList != []) = true :=
  list_no (fun e => h (str_eq e))
theorem empty_dec (l : List UInt8) : l.isEmpty = decide (str l = (⟨#[]⟩ : ByteArray)) := by
  cases l with
  | nil => rfl
  | cons c t => exact (decide_eq_false (fun e => by have := str_inj (b := []) e; cases this)).symm
theorem len_dec (l : List UInt8) (n : Nat) : decide (l.length ≤ n) = decide (((str l).size : Int) ≤ n) := by
  rw [str_size]; exact decide_eq_decide.2 (by omega)

set_option maxHeartbeats 3200000 in
set_option maxRecDepth 100000 in
theorem rRight_s (s : St.S) (w : World) (h1 : s.method.length ≤ 1000000) (h2 : s.target.length ≤ 1000000) (h3 : s.reason.length ≤ 1000000) :
    Calls Tryz.prog 39 #[sval s] w fun e w' => e = .returned (.bool (St.right s)) ∧ Below w.heap.size w w' := by
  rw [sval_s]
  have h0 := SAt.start w (.string (str s.method)) (.string (str s.target)) (.int .i64 s.status) (.string (str s.reason)) (.int .i64 s.minor)
  have cT := fun (W : World) => rToken_s (str s.method) W (by rw [str_size]; omega)
  have cV := fun (W : World) => rvisible_s (str s.target) W (by rw [str_size]; omega)
  have cX := fun (W : World) => rValue_s (str s.reason) W (by rw [str_size]; omega)
  rw [str_list] at cT cV cX
  obtain ⟨m, t, st, r, k⟩ := s
  simp only [] at *
  have HV : Hid (St.right ⟨m, t, st, r, k⟩ = (decide (0 ≤ k) && decide (k ≤ 1) && (if st = 0 then Oct.token m && decide (((str m).size : Int) ≤ 32) && St.visible t && decide (((str t).size : Int) ≤ 8000) && decide (str r = (⟨#[]⟩ : ByteArray))
      else decide (str m = (⟨#[]⟩ : ByteArray)) && decide (str t = (⟨#[]⟩ : ByteArray)) && decide (100 ≤ st) && decide (st ≤ 999) && Oct.value r && decide (((str r).size : Int) ≤ 200)))) := Lib.hid (by
    show (_ && _ && (if st = 0 then St.rightQ _ else St.rightA _)) = _
    unfold St.rightQ St.rightA
    simp only [empty_dec, len_dec]; rfl)
  generalize St.right ⟨m, t, st, r, k⟩ = Z at *
  generalize Oct.token m = tk at *
  generalize St.visible t = vs at *
  generalize Oct.value r = vl at *
  generalize str m = M at *
  generalize str t = T at *
  generalize str r = D at *
  generalize st = C at *
  generalize k = K at *
  clear h1 h2 h3
  by_cases k0 : 0 ≤ K
  · by_cases k1 : K ≤ 1
    · by_cases z : C = 0
      · subst z
        cases tk with
        | false =>
          have HR : Hid (Z = false) := Lib.hid (HV.out.trans (by simp [*]))
          clear HV
          go_enter Tryz.func39, Tryz.ntmps39
          go_upto_region 1 with fail
          generalize w.alloc _ = W0 at h0 ⊢
          obtain ⟨c0, c1, c2, c3, c4⟩ := h0.cells
          have hB0 := h0.below
          go_wp2_with fail
          refine (cT _).mono ?_
          rintro e W1 ⟨rfl, hb1⟩
          have h1 := h0.later hb1
          obtain ⟨d0, d1, d2, d3, d4⟩ := h1.cells
          have hB0 := h1.below
          clear c0 c1 c2 c3 c4 h0 h1 hb1
          go_wp2_with fail
          go_ret
          exact ⟨ret_bool (by rw [HR.out] <;> simp [*]), hB0⟩
        | true =>
          by_cases g1 : (M.size : Int) ≤ 32
          · cases vs with
            | false =>
              have HR : Hid (Z = false) := Lib.hid (HV.out.trans (by simp [*]))
              clear HV
              go_enter Tryz.func39, Tryz.ntmps39
              go_upto_region 1 with fail
              generalize w.alloc _ = W0 at h0 ⊢
              obtain ⟨c0, c1, c2, c3, c4⟩ := h0.cells
              have hB0 := h0.below
              go_wp2_with fail
              refine (cT _).mono ?_
              rintro e W1 ⟨rfl, hb1⟩
              have h1 := h0.later hb1
              obtain ⟨d0, d1, d2, d3, d4⟩ := h1.cells
              have hB0 := h1.below
              clear c0 c1 c2 c3 c4 h0 h1 hb1
              go_wp2_with fail
              refine (cV _).mono ?_
              rintro e W2 ⟨rfl, rfl⟩
              go_wp2_with fail
              go_ret
              exact ⟨ret_bool (by rw [HR.out] <;> simp [*]), hB0⟩
            | true =>
              by_cases g2 : (T.size : Int) ≤ 8000
              · cases De : decide (D = (⟨#[]⟩ : ByteArray)) with
                | true =>
                  obtain rfl : D = ⟨#[]⟩ := of_decide_eq_true De
                  clear De
                  have HR : Hid (Z = true) := Lib.hid (HV.out.trans (by simp [*]))
                  clear HV
                  go_enter Tryz.func39, Tryz.ntmps39
                  go_upto_region 1 with fail
                  generalize w.alloc _ = W0 at h0 ⊢
                  obtain ⟨c0, c1, c2, c3, c4⟩ := h0.cells
                  have hB0 := h0.below
                  go_wp2_with fail
                  refine (cT _).mono ?_
                  rintro e W1 ⟨rfl, hb1⟩
                  have h1 := h0.later hb1
                  obtain ⟨d0, d1, d2, d3, d4⟩ := h1.cells
                  have hB0 := h1.below
                  clear c0 c1 c2 c3 c4 h0 h1 hb1
                  go_wp2_with fail
                  refine (cV _).mono ?_
                  rintro e W2 ⟨rfl, rfl⟩
                  go_wp2_with fail
                  go_ret
                  exact ⟨ret_bool (by rw [HR.out] <;> simp [*]), hB0⟩
                | false =>
                  obtain ⟨n1, n2, n3⟩ := nonempty (of_decide_eq_false De)
                  have HR : Hid (Z = false) := Lib.hid (HV.out.trans (by simp [*]))
                  clear HV
                  go_enter Tryz.func39, Tryz.ntmps39
                  go_upto_region 1 with fail
                  generalize w.alloc _ = W0 at h0 ⊢
                  obtain ⟨c0, c1, c2, c3, c4⟩ := h0.cells
                  have hB0 := h0.below
                  go_wp2_with fail
                  refine (cT _).mono ?_
                  rintro e W1 ⟨rfl, hb1⟩
                  have h1 := h0.later hb1
                  obtain ⟨d0, d1, d2, d3, d4⟩ := h1.cells
                  have hB0 := h1.below
                  clear c0 c1 c2 c3 c4 h0 h1 hb1
                  go_wp2_with fail
                  refine (cV _).mono ?_
                  rintro e W2 ⟨rfl, rfl⟩
                  go_wp2_with fail
                  go_ret
                  exact ⟨ret_bool (by rw [HR.out] <;> simp [*]), hB0⟩
              · have HR : Hid (Z = false) := Lib.hid (HV.out.trans (by simp [*]))
                clear HV
                go_enter Tryz.func39, Tryz.ntmps39
                go_upto_region 1 with fail
                generalize w.alloc _ = W0 at h0 ⊢
                obtain ⟨c0, c1, c2, c3, c4⟩ := h0.cells
                have hB0 := h0.below
                go_wp2_with fail
                refine (cT _).mono ?_
                rintro e W1 ⟨rfl, hb1⟩
                have h1 := h0.later hb1
                obtain ⟨d0, d1, d2, d3, d4⟩ := h1.cells
                have hB0 := h1.below
                clear c0 c1 c2 c3 c4 h0 h1 hb1
                go_wp2_with fail
                refine (cV _).mono ?_
                rintro e W2 ⟨rfl, rfl⟩
                go_wp2_with fail
                go_ret
                exact ⟨ret_bool (by rw [HR.out] <;> simp [*]), hB0⟩
          · have HR : Hid (Z = false) := Lib.hid (HV.out.trans (by simp [*]))
            clear HV
            go_enter Tryz.func39, Tryz.ntmps39
            go_upto_region 1 with fail
            generalize w.alloc _ = W0 at h0 ⊢
            obtain ⟨c0, c1, c2, c3, c4⟩ := h0.cells
            have hB0 := h0.below
            go_wp2_with fail
            refine (cT _).mono ?_
            rintro e W1 ⟨rfl, hb1⟩
            have h1 := h0.later hb1
            obtain ⟨d0, d1, d2, d3, d4⟩ := h1.cells
            have hB0 := h1.below
            clear c0 c1 c2 c3 c4 h0 h1 hb1
            go_wp2_with fail
            go_ret
            exact ⟨ret_bool (by rw [HR.out] <;> simp [*]), hB0⟩
      · have bz : (C == 0) = false := beq_eq_false_iff_ne.2 z
        cases Me : decide (M = (⟨#[]⟩ : ByteArray)) with
        | true =>
          obtain rfl : M = ⟨#[]⟩ := of_decide_eq_true Me
          clear Me
          cases Te : decide (T = (⟨#[]⟩ : ByteArray)) with
          | true =>
            obtain rfl : T = ⟨#[]⟩ := of_decide_eq_true Te
            clear Te
            by_cases g1 : 100 ≤ C
            · by_cases g2 : C ≤ 999
              · cases vl with
                | false =>
                  have HR : Hid (Z = false) := Lib.hid (HV.out.trans (by simp [*]))
                  clear HV
                  go_enter Tryz.func39, Tryz.ntmps39
                  go_upto_region 1 with fail
                  generalize w.alloc _ = W0 at h0 ⊢
                  obtain ⟨c0, c1, c2, c3, c4⟩ := h0.cells
                  have hB0 := h0.below
                  go_wp2_with fail
                  refine (cX _).mono ?_
                  rintro e W2 ⟨rfl, rfl⟩
                  go_wp2_with fail
                  go_ret
                  exact ⟨ret_bool (by rw [HR.out] <;> simp [*]), hB0⟩
                | true =>
                  by_cases g3 : (D.size : Int) ≤ 200
                  · have HR : Hid (Z = true) := Lib.hid (HV.out.trans (by simp [*]))
                    clear HV
                    go_enter Tryz.func39, Tryz.ntmps39
                    go_upto_region 1 with fail
                    generalize w.alloc _ = W0 at h0 ⊢
                    obtain ⟨c0, c1, c2, c3, c4⟩ := h0.cells
                    have hB0 := h0.below
                    go_wp2_with fail
                    refine (cX _).mono ?_
                    rintro e W2 ⟨rfl, rfl⟩
                    go_wp2_with fail
                    go_ret
                    exact ⟨ret_bool (by rw [HR.out] <;> simp [*]), hB0⟩
                  · have HR : Hid (Z = false) := Lib.hid (HV.out.trans (by simp [*]))
                    clear HV
                    go_enter Tryz.func39, Tryz.ntmps39
                    go_upto_region 1 with fail
                    generalize w.alloc _ = W0 at h0 ⊢
                    obtain ⟨c0, c1, c2, c3, c4⟩ := h0.cells
                    have hB0 := h0.below
                    go_wp2_with fail
                    refine (cX _).mono ?_
                    rintro e W2 ⟨rfl, rfl⟩
                    go_wp2_with fail
                    go_ret
                    exact ⟨ret_bool (by rw [HR.out] <;> simp [*]), hB0⟩
              · have HR : Hid (Z = false) := Lib.hid (HV.out.trans (by simp [*]))
                clear HV
                go_enter Tryz.func39, Tryz.ntmps39
                go_upto_region 1 with fail
                generalize w.alloc _ = W0 at h0 ⊢
                obtain ⟨c0, c1, c2, c3, c4⟩ := h0.cells
                have hB0 := h0.below
                go_wp2_with fail
                go_ret
                exact ⟨ret_bool (by rw [HR.out] <;> simp [*]), hB0⟩
            · have HR : Hid (Z = false) := Lib.hid (HV.out.trans (by simp [*]))
              clear HV
              go_enter Tryz.func39, Tryz.ntmps39
              go_upto_region 1 with fail
              generalize w.alloc _ = W0 at h0 ⊢
              obtain ⟨c0, c1, c2, c3, c4⟩ := h0.cells
              have hB0 := h0.below
              go_wp2_with fail
              go_ret
              exact ⟨ret_bool (by rw [HR.out] <;> simp [*]), hB0⟩
          | false =>
            obtain ⟨n1, n2, n3⟩ := nonempty (of_decide_eq_false Te)
            have HR : Hid (Z = false) := Lib.hid (HV.out.trans (by simp [*]))
            clear HV
            go_enter Tryz.func39, Tryz.ntmps39
            go_upto_region 1 with fail
            generalize w.alloc _ = W0 at h0 ⊢
            obtain ⟨c0, c1, c2, c3, c4⟩ := h0.cells
            have hB0 := h0.below
            go_wp2_with fail
            go_ret
            exact ⟨ret_bool (by rw [HR.out] <;> simp [*]), hB0⟩
        | false =>
          obtain ⟨n1, n2, n3⟩ := nonempty (of_decide_eq_false Me)
          have HR : Hid (Z = false) := Lib.hid (HV.out.trans (by simp [*]))
          clear HV
          go_enter Tryz.func39, Tryz.ntmps39
          go_upto_region 1 with fail
          generalize w.alloc _ = W0 at h0 ⊢
          obtain ⟨c0, c1, c2, c3, c4⟩ := h0.cells
          have hB0 := h0.below
          go_wp2_with fail
          go_ret
          exact ⟨ret_bool (by rw [HR.out] <;> simp [*]), hB0⟩
    · have HR : Hid (Z = false) := Lib.hid (HV.out.trans (by simp [*]))
      clear HV
      go_enter Tryz.func39, Tryz.ntmps39
      go_upto_region 1 with fail
      generalize w.alloc _ = W0 at h0 ⊢
      obtain ⟨c0, c1, c2, c3, c4⟩ := h0.cells
      have hB0 := h0.below
      go_wp2_with fail
      go_ret
      exact ⟨ret_bool (by rw [HR.out] <;> simp [*]), hB0⟩
  · have HR : Hid (Z = false) := Lib.hid (HV.out.trans (by simp [*]))
    clear HV
    go_enter Tryz.func39, Tryz.ntmps39
    go_upto_region 1 with fail
    generalize w.alloc _ = W0 at h0 ⊢
    obtain ⟨c0, c1, c2, c3, c4⟩ := h0.cells
    have hB0 := h0.below
    go_wp2_with fail
    go_ret
    exact ⟨ret_bool (by rw [HR.out] <;> simp [*]), hB0⟩

set_option maxHeartbeats 3200000 in
set_option maxRecDepth 100000 in
theorem rPrint_st (s : St.S) (w : World) (h1 : s.method.length ≤ 1000000) (h2 : s.target.length ≤ 1000000) (h3 : s.reason.length ≤ 1000000) (h4 : s.status ≤ 9223372036854775807) (h5 : s.minor ≤ 9223372036854775807) :
    Calls Tryz.prog 44 #[sval s] w fun e w' => e = .returned (.string (str (St.text s))) ∧ Below w.heap.size w w' := by
  rw [sval_s]
  have h0 := SAt.start w (.string (str s.method)) (.string (str s.target)) (.int .i64 s.status) (.string (str s.reason)) (.int .i64 s.minor)
  have cK := fun (W : World) => rPrint_is s.minor 10 _ W h5 rfl
  have cC := fun (W : World) => rPrint_is s.status 10 _ W h4 rfl
  have z1 : (str s.method).size ≤ 1000000 := by rw [str_size]; exact h1
  have z2 : (str s.target).size ≤ 1000000 := by rw [str_size]; exact h2
  have z3 : (str s.reason).size ≤ 1000000 := by rw [str_size]; exact h3
  have z4 : (str (Oct.print s.minor 10)).size ≤ 100 := by rw [str_size]; exact Oct.dgs_len10 s.minor.toNat (by omega)
  have z5 : (str (Oct.print s.status 10)).size ≤ 100 := by rw [str_size]; exact Oct.dgs_len10 s.status.toNat (by omega)
  have HV : Hid (str (St.text s) = if s.status = 0 then str s.method ++ ⟨#[32]⟩ ++ str s.target ++ ⟨#[32]⟩ ++ ((⟨#[72, 84, 84, 80, 47, 49, 46]⟩ : ByteArray) ++ str (Oct.print s.minor 10)) ++ ⟨#[13, 10]⟩
      else ((⟨#[72, 84, 84, 80, 47, 49, 46]⟩ : ByteArray) ++ str (Oct.print s.minor 10)) ++ ⟨#[32]⟩ ++ str (Oct.print s.status 10) ++ ⟨#[32]⟩ ++ str s.reason ++ ⟨#[13, 10]⟩) := Lib.hid (by
    unfold St.text St.body
    split
    · refine (str_eq ?_).symm
      simp only [app_two, str_list]
      simp [St.ver, St.http]
    · refine (str_eq ?_).symm
      simp only [app_two, str_list]
      simp [St.ver, St.http])
  generalize str (St.text s) = Z at *
  generalize str (Oct.print s.minor 10) = DK at *
  generalize str (Oct.print s.status 10) = DC at *
  generalize str s.method = M at *
  generalize str s.target = T at *
  generalize str s.reason = D at *
  generalize s.status = C at *
  generalize s.minor = K at *
  clear h1 h2 h3 h4 h5
  have zv : ((⟨#[72, 84, 84, 80, 47, 49, 46]⟩ : ByteArray) ++ DK).size ≤ 107 := by rw [ByteArray.size_append]; show 7 + DK.size ≤ _; omega
  by_cases z : C = 0
  · subst z
    have HR : Hid (Z = _) := Lib.hid (HV.out.trans (if_pos rfl))
    clear HV cC z5 z3
    go_enter Tryz.func44, Tryz.ntmps44
    go_upto_region 1 with fail
    generalize w.alloc (.cells #[.string M, .string T, .int .i64 0, .string D, .int .i64 K] 25) = W0 at h0 ⊢
    obtain ⟨c0, c1, c2, c3, c4⟩ := h0.cells
    go_wp2_with fail
    refine (cK _).mono ?_
    rintro e W1 ⟨rfl, hb1⟩
    have h1 := h0.later hb1
    obtain ⟨d0, d1, d2, d3, d4⟩ := h1.cells
    have hB := h1.below
    clear c0 c1 c2 c3 c4 h0 h1 hb1 cK
    go_upto_region 2 with fail
    generalize (⟨#[72, 84, 84, 80, 47, 49, 46]⟩ : ByteArray) ++ DK = V at *
    have y1 : (M ++ ⟨#[32]⟩ : ByteArray).size ≤ 1000001 := by rw [ByteArray.size_append]; show _ + 1 ≤ _; omega
    have y2 : (M ++ ⟨#[32]⟩ ++ T : ByteArray).size ≤ 2000001 := by rw [ByteArray.size_append]; omega
    have y3 : (M ++ ⟨#[32]⟩ ++ T ++ ⟨#[32]⟩ : ByteArray).size ≤ 2000002 := by rw [ByteArray.size_append]; show _ + 1 ≤ _; omega
    have y4 : (M ++ ⟨#[32]⟩ ++ T ++ ⟨#[32]⟩ ++ V : ByteArray).size ≤ 2000109 := by rw [ByteArray.size_append]; omega
    go_wp2_with fail
    go_ret
    exact ⟨by rw [HR.out]; rfl, hB⟩
  · have bz : (C == 0) = false := beq_eq_false_iff_ne.2 z
    have HR : Hid (Z = _) := Lib.hid (HV.out.trans (if_neg z))
    clear HV z1 z2
    go_enter Tryz.func44, Tryz.ntmps44
    go_upto_region 1 with fail
    generalize w.alloc (.cells #[.string M, .string T, .int .i64 C, .string D, .int .i64 K] 25) = W0 at h0 ⊢
    obtain ⟨c0, c1, c2, c3, c4⟩ := h0.cells
    go_wp2_with fail
    refine (cK _).mono ?_
    rintro e W1 ⟨rfl, hb1⟩
    have h1 := h0.later hb1
    obtain ⟨d0, d1, d2, d3, d4⟩ := h1.cells
    clear c0 c1 c2 c3 c4 h0 hb1 cK
    go_upto_region 4 with fail
    generalize (⟨#[72, 84, 84, 80, 47, 49, 46]⟩ : ByteArray) ++ DK = V at *
    obtain ⟨S1, e1⟩ : ∃ S1 : ByteArray, V ++ ⟨#[32]⟩ = S1 := ⟨_, rfl⟩
    have y1 : S1.size ≤ 108 := by rw [← e1, ByteArray.size_append]; show _ + 1 ≤ _; omega
    obtain ⟨S2, e2⟩ : ∃ S2 : ByteArray, S1 ++ DC = S2 := ⟨_, rfl⟩
    have y2 : S2.size ≤ 208 := by rw [← e2, ByteArray.size_append]; omega
    obtain ⟨S3, e3⟩ : ∃ S3 : ByteArray, S2 ++ ⟨#[32]⟩ = S3 := ⟨_, rfl⟩
    have y3 : S3.size ≤ 209 := by rw [← e3, ByteArray.size_append]; show _ + 1 ≤ _; omega
    obtain ⟨S4, e4⟩ : ∃ S4 : ByteArray, S3 ++ D = S4 := ⟨_, rfl⟩
    have y4 : S4.size ≤ 1000209 := by rw [← e4, ByteArray.size_append]; omega
    obtain ⟨S5, e5⟩ : ∃ S5 : ByteArray, S4 ++ ⟨#[13, 10]⟩ = S5 := ⟨_, rfl⟩
    have HS : Hid (Z = S5) := Lib.hid (by rw [HR.out, e1, e2, e3, e4, e5])
    have x1 : ¬ 9223372036854775807 < V.size + 1 := by omega
    have x2 : ¬ 9223372036854775807 < S1.size + DC.size := by omega
    have x3 : ¬ 9223372036854775807 < S2.size + 1 := by omega
    have x4 : ¬ 9223372036854775807 < S3.size + D.size := by omega
    have x5 : ¬ 9223372036854775807 < S4.size + 2 := by omega
    have v1 : V.size + 1 ≤ 9223372036854775807 := by omega
    have v2 : S1.size + DC.size ≤ 9223372036854775807 := by omega
    have v3 : S2.size + 1 ≤ 9223372036854775807 := by omega
    have v4 : S3.size + D.size ≤ 9223372036854775807 := by omega
    have v5 : S4.size + 2 ≤ 9223372036854775807 := by omega
    have k2 := fun p : LateOf W1 => p.cell d2
    have k3 := fun p : LateOf W1 => p.cell d3
    have GC := fun p : LateOf W1 => late p (cC p.w)
    have HB := Lib.hid (fun p : LateOf W1 => h1.below.trans (p.h.mono h1.below.size))
    clear d0 d1 d2 d3 d4 h1 cC HR
    refine wp_region_late (by kernel_rfl) (by kernel_rfl) ?_
    quiet_step (fail)
    quiet_step (fail)
    quiet_step (fail)
    quiet_step (fail)
    quiet_step ((go_at_call 70; exact GC _))
    quiet_step (fail)
    quiet_step (fail)
    quiet_step (fail)
    quiet_step (fail)
    quiet_step (fail)
    quiet_step (fail)
    quiet_step (fail)
    refine wpQuiet_nil ?_
    intro w6 hw'
    obtain ⟨p, rfl⟩ := hw'
    have hB := HB.out p
    go_wp2_with fail
    go_ret
    exact ⟨by rw [HS.out]; rfl, hB⟩
end Go.Proofs.YtlbjjeonchcgbaaGreatDoor

namespace Go.Proofs.YtlbjjeonchcgbaaGreatDoor
open Go.RowKit

theorem line_len (most : Nat) (l : List UInt8) : (St.line most l).1.length ≤ l.length := by
  unfold St.line
  split
  · split
    · show (l.take _).length ≤ _; rw [List.length_take]; omega
    · simp
  · split <;> simp
theorem ext_zero (s : ByteArray) (l : List UInt8) (h : s.data.toList = l) (k : Nat) : s.extract 0 k = str (l.take k) := str_eq (by rw [Lib.extract_data, h]; simp)
theorem ext_from (s : ByteArray) (l : List UInt8) (h : s.data.toList = l) (k : Nat) : s.extract k s.size = str (l.drop k) := by
  refine str_eq ?_
  rw [Lib.extract_data, h, List.take_of_length_le]
  rw [List.length_drop, ← h]; simp
theorem ext_mid (s : ByteArray) (l : List UInt8) (h : s.data.toList = l) (a b : Nat) : s.extract a b = str ((l.take b).drop a) := by
  refine str_eq ?_
  rw [Lib.extract_data, h, List.drop_take]
theorem SAt.drew {w : World} {g : Nat} {W : World} {a b c d e : Value} (h : SAt w g W a b c d e) : SAt w g W.drew a b c d e := h.later ((Below.refl _ _).drew)

set_option maxHeartbeats 6400000 in
set_option maxRecDepth 100000 in
theorem rRequest_w (v : Value) (l : List UInt8) (w : World) (hl : l.length ≤ 1000000) (h : BIn w v l) :
    Calls Tryz.prog 26 #[v] w fun e w' => e = .returned (sres (St.request l)) ∧ Below w.heap.size w w' := by
  have cL := fun (W : World) (hb : Below w.heap.size w W) => rline_w v l 8200 W hl (by decide) (h.later hb)
  have hlen := line_len 8200 l
  have h0 := SAt.start w (.string ⟨#[]⟩) (.string ⟨#[]⟩) (.int .i64 0) (.string ⟨#[]⟩) (.int .i64 0)
  have HQ : Hid (∀ x, St.line 8200 l = x → St.request l = St.whole x St.reqOf) := Lib.hid (by rintro x rfl; rfl)
  obtain ⟨⟨ln, n, er⟩, hx⟩ : ∃ x, St.line 8200 l = x := ⟨_, rfl⟩
  have HQ := Lib.hid (HQ.out _ hx)
  rw [hx] at cL hlen
  change ∀ (W : World), Below w.heap.size w W → Calls Tryz.prog 50 #[v, .int .i64 8200] W fun e w' => e = .returned (.tuple #[.string (str ln), .int .i64 n, .int .i64 er]) ∧ W = w' at cL
  simp only [] at hlen
  clear hx
  by_cases he : er = 0
  · subst he
    obtain ⟨s, hs⟩ : ∃ s, s = str ln := ⟨_, rfl⟩
    have hsd : s.data.toList = ln := by rw [hs, str_list]
    have hsz : s.size ≤ 1000000 := by rw [hs, str_size]; omega
    rw [← hs] at cL
    have cS := fun (W : World) => rspace_s s W hsz
    obtain ⟨I, hI, i1, g1, g2⟩ := upto_facts 32 s
    clear g1 g2
    rw [← hI] at cS
    have hIl : ln.length = s.size := by rw [hs, str_size]
    rw [hsd] at hI
    have hI0 : (0 : Int) ≤ I := by omega
    have hIs : (I : Int) ≤ s.size := by omega
    by_cases hIe : I = s.size
    · have HR : Hid (St.request l = (St.zero, 0, 10)) := by
        rw [HQ.out, St.whole_of (St.reqOf_none (by rw [← hI, hIl]; exact hIe))]; exact Lib.hid rfl
      have bI : ((I : Int) == (s.size : Int)) = true := by rw [hIe]; exact beq_self_eq_true _
      clear HQ hI hIl hsd hs hIe h hl hlen
      go_enter Tryz.func26, Tryz.ntmps26
      go_upto_region 1 with fail
      generalize w.alloc _ = W0 at h0 ⊢
      go_wp2_with fail
      refine (cL _ h0.below).mono ?_
      rintro e W1 ⟨rfl, rfl⟩
      go_wp2_with fail
      refine (cS _).mono ?_
      rintro e W2 ⟨rfl, rfl⟩
      go_wp2_with (refine stS h0 rfl (.tmp 2) (.tmp 28) rfl _ _ _ _ _ rfl rfl ?_; intro W9 h9 _)
      (try simp only [Exit.inBlock, Exit.then])
      refine ret_start rfl w.heap.size _ _ _ _ _ rfl h9.cell rfl ?_
      exact ⟨by rw [HR.out]; rfl, h9.below⟩
    · obtain ⟨T, hT⟩ : ∃ T, T = s.extract (I + 1) s.size := ⟨_, rfl⟩
      have hTs : T = str (ln.drop (I + 1)) := by rw [hT]; exact ext_from s ln hsd (I + 1)
      have hTd : T.data.toList = ln.drop (I + 1) := by rw [hTs, str_list]
      have hTz : T.size ≤ 1000000 := by rw [hTs, str_size, List.length_drop]; omega
      have hTl : (ln.drop (I + 1)).length = T.size := by rw [hTs, str_size]
      have cS2 := fun (W : World) => rspace_s T W hTz
      obtain ⟨J, hJ, j1, g1, g2⟩ := upto_facts 32 T
      clear g1 g2
      rw [← hJ] at cS2
      rw [hTd] at hJ
      have bI : ((I : Int) == (s.size : Int)) = false := beq_eq_false_iff_ne.2 (by omega)
      have hI1 : (I : Int) + 1 ≤ s.size := by omega
      have hwI : IntKind.i64.wrap ((I : Int) + 1) = (I : Int) + 1 := by rw [IntKind.wrap_i64]; omega
      have hJ0 : (0 : Int) ≤ J := by omega
      have hJs : (J : Int) ≤ T.size := by omega
      have eT := hT.symm
      by_cases hJe : J = T.size
      · have HR : Hid (St.request l = (St.zero, 0, 10)) := by
          rw [HQ.out, St.whole_of (St.reqOf_one (by rw [← hI, hIl]; exact hIe) (by rw [← hI, ← hJ, hTl]; exact hJe))]; exact Lib.hid rfl
        have bJ : ((J : Int) == (T.size : Int)) = true := by rw [hJe]; exact beq_self_eq_true _
        clear HQ hI hIl hsd hs hIe h hl hlen hT hTs hTd hTl hJ hJe
        go_enter Tryz.func26, Tryz.ntmps26
        go_upto_region 1 with fail
        generalize w.alloc _ = W0 at h0 ⊢
        go_wp2_with fail
        refine (cL _ h0.below).mono ?_
        rintro e W1 ⟨rfl, rfl⟩
        go_wp2_with fail
        refine (cS _).mono ?_
        rintro e W2 ⟨rfl, rfl⟩
        go_wp2_with fail
        refine (cS2 _).mono ?_
        rintro e W3 ⟨rfl, rfl⟩
        go_wp2_with (refine stS h0 rfl (.tmp 2) (.tmp 39) rfl _ _ _ _ _ rfl rfl ?_; intro W9 h9 _)
        (try simp only [Exit.inBlock, Exit.then])
        refine ret_start rfl w.heap.size _ _ _ _ _ rfl h9.cell rfl ?_
        exact ⟨by rw [HR.out]; rfl, h9.below⟩
      · have bJ : ((J : Int) == (T.size : Int)) = false := beq_eq_false_iff_ne.2 (by omega)
        have hJ1 : (J : Int) + 1 ≤ T.size := by omega
        have hwJ : IntKind.i64.wrap ((J : Int) + 1) = (J : Int) + 1 := by rw [IntKind.wrap_i64]; omega
        obtain ⟨M, hM⟩ : ∃ M, M = str (ln.take I) := ⟨_, rfl⟩
        obtain ⟨G, hG⟩ : ∃ G, G = str ((ln.drop (I + 1)).take J) := ⟨_, rfl⟩
        obtain ⟨V, hV⟩ : ∃ V, V = str ((ln.drop (I + 1)).drop (J + 1)) := ⟨_, rfl⟩
        have eM : s.extract 0 I = M := by rw [hM]; exact ext_zero s ln hsd I
        have eG : T.extract 0 J = G := by rw [hG]; exact ext_zero T _ hTd J
        have eV : T.extract (J + 1) T.size = V := by rw [hV]; exact ext_from T _ hTd (J + 1)
        have cM := fun (W : World) => rminor_s V W
        have mz : M.size = (ln.take I).length := by rw [hM, str_size]
        have gz : G.size = ((ln.drop (I + 1)).take J).length := by rw [hG, str_size]
        have cK := fun (W : World) => rToken_s M W (by rw [mz, List.length_take]; omega)
        have cX := fun (W : World) => rvisible_s G W (by rw [gz, List.length_take]; omega)
        rw [hV, str_list, ← hV] at cM
        rw [hM, str_list, ← hM] at cK
        rw [hG, str_list, ← hG] at cX
        have hq := St.reqOf_two (l := ln) (by rw [← hI, hIl]; exact hIe) (by rw [← hI, ← hJ, hTl]; exact hJe)
        rw [← hI, ← hJ] at hq
        have HB : Hid (∀ mn tk vs, St.minorOf ((ln.drop (I + 1)).drop (J + 1)) = mn → Oct.token (ln.take I) = tk → St.visible ((ln.drop (I + 1)).take J) = vs → ∀ x e, (if mn < 0 ∨ tk = false ∨ vs = false then (St.zero, 10) else if 32 < M.size ∨ 8000 < G.size then (St.zero, 12) else (⟨ln.take I, (ln.drop (I + 1)).take J, 0, [], mn⟩, 0) : St.S × Int) = (x, e) → St.request l = if e ≠ 0 then (St.zero, 0, e) else (x, n, 0)) := Lib.hid (by
          rintro mn tk vs rfl rfl rfl x e hxe
          rw [HQ.out]
          refine St.whole_of (hq.trans ?_)
          rw [mz, gz] at hxe
          exact hxe)
        have HU : Hid (∀ mn, sval ⟨ln.take I, (ln.drop (I + 1)).take J, 0, [], mn⟩ = .agg #[.string M, .string G, .int .i64 0, .string ⟨#[]⟩, .int .i64 mn]) := Lib.hid (by intro mn; rw [hM, hG]; rfl)
        obtain ⟨mn, hmn⟩ : ∃ mn, St.minorOf ((ln.drop (I + 1)).drop (J + 1)) = mn := ⟨_, rfl⟩
        obtain ⟨tk, htk⟩ : ∃ tk, Oct.token (ln.take I) = tk := ⟨_, rfl⟩
        obtain ⟨vs, hvs⟩ : ∃ vs, St.visible ((ln.drop (I + 1)).take J) = vs := ⟨_, rfl⟩
        have HC := Lib.hid (HB.out mn tk vs hmn htk hvs)
        clear HB hq
        rw [hmn] at cM
        rw [htk] at cK
        rw [hvs] at cX
        have HW := Lib.hid (HU.out mn)
        generalize (⟨ln.take I, (ln.drop (I + 1)).take J, 0, [], mn⟩ : St.S) = X at HC HW
        have hMz : M.size ≤ 1000000 := by rw [mz, List.length_take]; omega
        have hGz : G.size ≤ 1000000 := by rw [gz, List.length_take]; omega
        clear HQ HU hI hIl hsd hs hIe h hl hlen hT hTs hTd hTl hJ hJe hM hG hV mz gz hmn htk hvs
        go_enter Tryz.func26, Tryz.ntmps26
        go_upto_region 1 with fail
        generalize w.alloc _ = W0 at h0 ⊢
        go_wp2_with fail
        refine (cL _ h0.below).mono ?_
        rintro e W1 ⟨rfl, rfl⟩
        go_wp2_with fail
        refine (cS _).mono ?_
        rintro e W2 ⟨rfl, rfl⟩
        go_wp2_with fail
        refine (cS2 _).mono ?_
        rintro e W3 ⟨rfl, rfl⟩
        go_upto_region 11 with fail
        go_cut [11] from 40 to 51 (fun p wx => p = .pointer (some ⟨W0.heap.size, 0, none⟩) ∧ (W0.alloc (.cells #[.string M, .string G, .int .i64 0, .string ⟨#[]⟩, .int .i64 mn] 25)).drew = wx)
        case first =>
          go_region_with ((refine (cM _).mono ?_; rintro e W4 ⟨rfl, rfl⟩))
          all_goals (go_wp2_with fail)
          all_goals (go_meet; case rel => exact ⟨rfl, rfl⟩)
        case rest =>
          obtain ⟨rfl, rfl⟩ := hcut
          have hN := (SAt.fresh h0.below (.string M) (.string G) (.int .i64 0) (.string ⟨#[]⟩) (.int .i64 mn)).drew
          have hR := (h0.alloc (.cells #[.string M, .string G, .int .i64 0, .string ⟨#[]⟩, .int .i64 mn] 25)).drew
          generalize (W0.alloc (.cells #[.string M, .string G, .int .i64 0, .string ⟨#[]⟩, .int .i64 mn] 25)).drew = W5 at hN hR ⊢
          generalize W0.heap.size = gN at hN ⊢
          obtain ⟨c0, c1, c2, c3, c4⟩ := hN.cells
          clear h0 cL cS cS2 cM
          by_cases g0 : mn < 0
          · have HR : Hid (St.request l = (St.zero, 0, 10)) := Lib.hid (HC.out _ _ (if_pos (.inl g0)))
            clear HC
            go_wp2_with (refine stS hR rfl (.tmp 2) (.tmp 67) rfl _ _ _ _ _ rfl rfl ?_; intro W9 h9 _)
            (try simp only [Exit.inBlock, Exit.then])
            refine ret_start rfl w.heap.size _ _ _ _ _ rfl h9.cell rfl ?_
            exact ⟨by rw [HR.out]; rfl, h9.below⟩
          · cases tk with
            | false =>
              have HR : Hid (St.request l = (St.zero, 0, 10)) := Lib.hid (HC.out _ _ (if_pos (.inr (.inl rfl))))
              clear HC
              go_wp2_with fail
              refine (cK _).mono ?_
              rintro e W6 ⟨rfl, hb6⟩
              have hR6 := hR.later hb6
              go_wp2_with (refine stS hR6 rfl (.tmp 2) (.tmp 67) rfl _ _ _ _ _ rfl rfl ?_; intro W9 h9 _)
              (try simp only [Exit.inBlock, Exit.then])
              refine ret_start rfl w.heap.size _ _ _ _ _ rfl h9.cell rfl ?_
              exact ⟨by rw [HR.out]; rfl, h9.below⟩
            | true =>
              cases vs with
              | false =>
                have HR : Hid (St.request l = (St.zero, 0, 10)) := Lib.hid (HC.out _ _ (if_pos (.inr (.inr rfl))))
                clear HC
                go_wp2_with fail
                refine (cK _).mono ?_
                rintro e W6 ⟨rfl, hb6⟩
                have hR6 := hR.later hb6
                obtain ⟨d0, d1, d2, d3, d4⟩ := (hN.later hb6).cells
                clear c0 c1 c2 c3 c4
                go_wp2_with fail
                refine (cX _).mono ?_
                rintro e W7 ⟨rfl, rfl⟩
                go_wp2_with (refine stS hR6 rfl (.tmp 2) (.tmp 67) rfl _ _ _ _ _ rfl rfl ?_; intro W9 h9 _)
                (try simp only [Exit.inBlock, Exit.then])
                refine ret_start rfl w.heap.size _ _ _ _ _ rfl h9.cell rfl ?_
                exact ⟨by rw [HR.out]; rfl, h9.below⟩
              | true =>
                have HC := Lib.hid (fun x e hxe => HC.out x e ((if_neg (by simp; omega)).trans hxe))
                by_cases g1 : (32 : Int) < M.size
                · have HR : Hid (St.request l = (St.zero, 0, 12)) := Lib.hid (HC.out _ _ (if_pos (.inl (by omega))))
                  clear HC
                  go_wp2_with fail
                  refine (cK _).mono ?_
                  rintro e W6 ⟨rfl, hb6⟩
                  have hR6 := hR.later hb6
                  obtain ⟨d0, d1, d2, d3, d4⟩ := (hN.later hb6).cells
                  clear c0 c1 c2 c3 c4
                  go_wp2_with fail
                  refine (cX _).mono ?_
                  rintro e W7 ⟨rfl, rfl⟩
                  go_wp2_with (refine stS hR6 rfl (.tmp 2) (.tmp 78) rfl _ _ _ _ _ rfl rfl ?_; intro W9 h9 _)
                  (try simp only [Exit.inBlock, Exit.then])
                  refine ret_start rfl w.heap.size _ _ _ _ _ rfl h9.cell rfl ?_
                  exact ⟨by rw [HR.out]; rfl, h9.below⟩
                · by_cases g2 : (8000 : Int) < G.size
                  · have HR : Hid (St.request l = (St.zero, 0, 12)) := Lib.hid (HC.out _ _ (if_pos (.inr (by omega))))
                    clear HC
                    go_wp2_with fail
                    refine (cK _).mono ?_
                    rintro e W6 ⟨rfl, hb6⟩
                    have hR6 := hR.later hb6
                    obtain ⟨d0, d1, d2, d3, d4⟩ := (hN.later hb6).cells
                    clear c0 c1 c2 c3 c4
                    go_wp2_with fail
                    refine (cX _).mono ?_
                    rintro e W7 ⟨rfl, rfl⟩
                    go_wp2_with (refine stS hR6 rfl (.tmp 2) (.tmp 78) rfl _ _ _ _ _ rfl rfl ?_; intro W9 h9 _)
                    (try simp only [Exit.inBlock, Exit.then])
                    refine ret_start rfl w.heap.size _ _ _ _ _ rfl h9.cell rfl ?_
                    exact ⟨by rw [HR.out]; rfl, h9.below⟩
                  · have HR : Hid (sres (St.request l) = .tuple #[.agg #[.string M, .string G, .int .i64 0, .string ⟨#[]⟩, .int .i64 mn], .int .i64 n, .int .i64 0]) := by
                      rw [HC.out X 0 (if_neg (by omega)), if_neg (by decide)]
                      exact Lib.hid (by show Value.tuple #[sval X, _, _] = _; rw [HW.out])
                    clear HC HW
                    go_wp2_with fail
                    refine (cK _).mono ?_
                    rintro e W6 ⟨rfl, hb6⟩
                    have hR6 := hR.later hb6
                    have hN6 := hN.later hb6
                    obtain ⟨d0, d1, d2, d3, d4⟩ := hN6.cells
                    clear c0 c1 c2 c3 c4
                    go_wp2_with fail
                    refine (cX _).mono ?_
                    rintro e W7 ⟨rfl, rfl⟩
                    go_upto_region 16 with fail
                    clear d0 d1 d2 d3 d4
                    go_wp2_with (first | (refine ldS hN6.cell rfl (.tmp 11) rfl rfl ?_) | (refine stS hR6 rfl (.tmp 2) (.tmp 79) rfl _ _ _ _ _ rfl rfl ?_; intro W9 h9 _))
                    (try simp only [Exit.inBlock, Exit.then])
                    refine ret_start rfl w.heap.size _ _ _ _ _ rfl h9.cell rfl ?_
                    exact ⟨by rw [HR.out]; rfl, h9.below⟩
  · have HR : Hid (St.request l = (St.zero, 0, er)) := by rw [HQ.out, St.whole_first he]; exact Lib.hid rfl
    have be : (er != 0) = true := by rw [bne, beq_eq_false_iff_ne.2 he]; rfl
    generalize str ln = s at *
    clear HQ h hl hlen he
    go_enter Tryz.func26, Tryz.ntmps26
    go_upto_region 1 with fail
    generalize w.alloc _ = W0 at h0 ⊢
    go_wp2_with fail
    refine (cL _ h0.below).mono ?_
    rintro e W1 ⟨rfl, rfl⟩
    go_wp2_with (refine stS h0 rfl (.tmp 2) (.tmp 20) rfl _ _ _ _ _ rfl rfl ?_; intro W9 h9 _)
    (try simp only [Exit.inBlock, Exit.then])
    refine ret_start rfl w.heap.size _ _ _ _ _ rfl h9.cell rfl ?_
    exact ⟨by rw [HR.out]; rfl, h9.below⟩
end Go.Proofs.YtlbjjeonchcgbaaGreatDoor

namespace St
theorem resOf_no {l : L} (h : l.length < 13 ∨ l[8]? ≠ some 32 ∨ l[12]? ≠ some 32) : resOf l = (zero, 10) := by unfold resOf; rw [if_pos h]
theorem resOf_at {l : L} (h : ¬ (l.length < 13 ∨ l[8]? ≠ some 32 ∨ l[12]? ≠ some 32)) : resOf l = resAt (l.take 8) ((l.take 12).drop 9) (l.drop 13) := by unfold resOf; rw [if_neg h]
end St
namespace Go.Proofs.YtlbjjeonchcgbaaGreatDoor
open Go.RowKit

set_option maxHeartbeats 6400000 in
set_option maxRecDepth 100000 in
theorem rResponse_w (v : Value) (l : List UInt8) (w : World) (hl : l.length ≤ 1000000) (h : BIn w v l) :
    Calls Tryz.prog 25 #[v] w fun e w' => e = .returned (sres (St.response l)) ∧ Below w.heap.size w w' := by
  have cL := fun (W : World) (hb : Below w.heap.size w W) => rline_w v l 300 W hl (by decide) (h.later hb)
  have hlen := line_len 300 l
  have h0 := SAt.start w (.string ⟨#[]⟩) (.string ⟨#[]⟩) (.int .i64 0) (.string ⟨#[]⟩) (.int .i64 0)
  have HQ : Hid (∀ x, St.line 300 l = x → St.response l = St.whole x St.resOf) := Lib.hid (by rintro x rfl; rfl)
  obtain ⟨⟨ln, n, er⟩, hx⟩ : ∃ x, St.line 300 l = x := ⟨_, rfl⟩
  have HQ := Lib.hid (HQ.out _ hx)
  rw [hx] at cL hlen
  change ∀ (W : World), Below w.heap.size w W → Calls Tryz.prog 50 #[v, .int .i64 300] W fun e w' => e = .returned (.tuple #[.string (str ln), .int .i64 n, .int .i64 er]) ∧ W = w' at cL
  simp only [] at hlen
  clear hx
  by_cases he : er = 0
  · subst he
    obtain ⟨s, hs⟩ : ∃ s, s = str ln := ⟨_, rfl⟩
    have hsd : s.data.toList = ln := by rw [hs, str_list]
    have hsz : s.size ≤ 1000000 := by rw [hs, str_size]; omega
    rw [← hs] at cL
    have hIl : ln.length = s.size := by rw [hs, str_size]
    have HI8 : Hid (∀ h : 8 < s.size, ln[8]? = some s[8]) := Lib.hid (fun h => by rw [← hsd]; exact Lib.data_getElem? s 8 h)
    have HI12 : Hid (∀ h : 12 < s.size, ln[12]? = some s[12]) := Lib.hid (fun h => by rw [← hsd]; exact Lib.data_getElem? s 12 h)
    by_cases h13 : s.size < 13
    · have h13i : (s.size : Int) < 13 := by omega
      have HR : Hid (St.response l = (St.zero, 0, 10)) := by rw [HQ.out, St.whole_of (St.resOf_no (.inl (by rw [hIl]; exact h13)))]; exact Lib.hid rfl
      clear HQ HI8 HI12 hIl hsd hs h hl hlen h13
      go_enter Tryz.func25, Tryz.ntmps25
      go_upto_region 1 with fail
      generalize w.alloc _ = W0 at h0 ⊢
      go_wp2_with fail
      refine (cL _ h0.below).mono ?_
      rintro e W1 ⟨rfl, rfl⟩
      go_wp2_with (refine stS h0 rfl (.tmp 2) (.tmp 34) rfl _ _ _ _ _ rfl rfl ?_; intro W9 h9 _)
      (try simp only [Exit.inBlock, Exit.then])
      refine ret_start rfl w.heap.size _ _ _ _ _ rfl h9.cell rfl ?_
      exact ⟨by rw [HR.out]; rfl, h9.below⟩
    have h13i : ¬ (s.size : Int) < 13 := by omega
    have p8 : 8 < s.size := by omega
    have p12 : 12 < s.size := by omega
    have p8i : (8 : Int) < s.size := by omega
    have p12i : (12 : Int) < s.size := by omega
    by_cases h8 : s[8] = 32
    · by_cases h12 : s[12] = 32
      · have i8 : (s[8].toNat : Int) = 32 := by rw [h8]; rfl
        have i12 : (s[12].toNat : Int) = 32 := by rw [h12]; rfl
        have hq := St.resOf_at (l := ln) (by rw [HI8.out p8, HI12.out p12, h8, h12, hIl]; simp; omega)
        obtain ⟨R, hR⟩ : ∃ R, R = str (ln.drop 13) := ⟨_, rfl⟩
        obtain ⟨V, hV⟩ : ∃ V, V = str (ln.take 8) := ⟨_, rfl⟩
        obtain ⟨D, hD⟩ : ∃ D, D = str ((ln.take 12).drop 9) := ⟨_, rfl⟩
        have eR : s.extract 13 s.size = R := by rw [hR]; exact ext_from s ln hsd 13
        have eV : s.extract 0 8 = V := by rw [hV]; exact ext_zero s ln hsd 8
        have eD : s.extract 9 12 = D := by rw [hD]; exact ext_mid s ln hsd 9 12
        have cM := fun (W : World) => rminor_s V W
        have rz : R.size = (ln.drop 13).length := by rw [hR, str_size]
        have dz : D.size ≤ 100 := by rw [hD, str_size, List.length_drop, List.length_take]; omega
        obtain ⟨K, f, hkf⟩ : ∃ K f, Oct.number 10 999 ((ln.take 12).drop 9) = (K, f) := ⟨_, _, rfl⟩
        have cN := fun (W : World) => rNumber_is D 999 K f W (by omega) (by decide) (by decide) (by rw [hD, str_list]; exact hkf)
        have cX := fun (W : World) => rValue_s R W (by rw [rz, List.length_drop]; omega)
        rw [hV, str_list, ← hV] at cM
        rw [hR, str_list, ← hR] at cX
        have HB : Hid (∀ mn vl, St.minorOf (ln.take 8) = mn → Oct.value (ln.drop 13) = vl → ∀ x e, (if f ≠ 0 ∨ K < 100 ∨ mn < 0 ∨ vl = false then (St.zero, 10) else if 200 < R.size then (St.zero, 12) else (⟨[], [], K, ln.drop 13, mn⟩, 0) : St.S × Int) = (x, e) → St.response l = if e ≠ 0 then (St.zero, 0, e) else (x, n, 0)) := Lib.hid (by
          rintro mn vl rfl rfl x e hxe
          rw [HQ.out]
          refine St.whole_of (hq.trans ?_)
          unfold St.resAt
          rw [hkf]
          rw [rz] at hxe
          exact hxe)
        have HU : Hid (∀ mn, sval ⟨[], [], K, ln.drop 13, mn⟩ = .agg #[.string ⟨#[]⟩, .string ⟨#[]⟩, .int .i64 K, .string R, .int .i64 mn]) := Lib.hid (by intro mn; rw [hR]; rfl)
        obtain ⟨mn, hmn⟩ : ∃ mn, St.minorOf (ln.take 8) = mn := ⟨_, rfl⟩
        obtain ⟨vl, hvl⟩ : ∃ vl, Oct.value (ln.drop 13) = vl := ⟨_, rfl⟩
        have HC := Lib.hid (HB.out mn vl hmn hvl)
        rw [hmn] at cM
        rw [hvl] at cX
        have HW := Lib.hid (HU.out mn)
        generalize (⟨[], [], K, ln.drop 13, mn⟩ : St.S) = X at HC HW
        have hRz : R.size ≤ 1000000 := by rw [rz, List.length_drop]; omega
        clear HB HQ HU HI8 HI12 hIl hsd hs h hl hlen hq hR hV hD rz hkf hmn hvl h8 h12 h13
        go_enter Tryz.func25, Tryz.ntmps25
        go_upto_region 1 with fail
        generalize w.alloc _ = W0 at h0 ⊢
        go_wp2_with fail
        refine (cL _ h0.below).mono ?_
        rintro e W1 ⟨rfl, rfl⟩
        go_wp2_with fail
        refine (cN _).mono ?_
        rintro e W2 ⟨rfl, rfl⟩
        go_upto_region 7 with fail
        go_cut [10] from 41 to 47 (fun p wx => p = .pointer (some ⟨W0.heap.size, 0, none⟩) ∧ (W0.alloc (.cells #[.string ⟨#[]⟩, .string ⟨#[]⟩, .int .i64 K, .string R, .int .i64 mn] 25)).drew = wx)
        case first =>
          go_region_with ((refine (cM _).mono ?_; rintro e W4 ⟨rfl, rfl⟩))
          all_goals (go_wp2_with fail)
          all_goals (go_meet; case rel => exact ⟨rfl, rfl⟩)
        case rest =>
          obtain ⟨rfl, rfl⟩ := hcut
          have hN := (SAt.fresh h0.below (.string ⟨#[]⟩) (.string ⟨#[]⟩) (.int .i64 K) (.string R) (.int .i64 mn)).drew
          have hR := (h0.alloc (.cells #[.string ⟨#[]⟩, .string ⟨#[]⟩, .int .i64 K, .string R, .int .i64 mn] 25)).drew
          generalize (W0.alloc (.cells #[.string ⟨#[]⟩, .string ⟨#[]⟩, .int .i64 K, .string R, .int .i64 mn] 25)).drew = W5 at hN hR ⊢
          generalize W0.heap.size = gN at hN ⊢
          obtain ⟨c0, c1, c2, c3, c4⟩ := hN.cells
          clear h0 cL cN cM eR eV eD i8 i12
          by_cases g0 : f = 0
          · have b0 : (f != 0) = false := by rw [g0]; rfl
            by_cases g1 : K < 100
            · have HR : Hid (St.response l = (St.zero, 0, 10)) := Lib.hid (HC.out _ _ (if_pos (.inr (.inl g1))))
              clear HC
              go_wp2_with (refine stS hR rfl (.tmp 2) (.tmp 65) rfl _ _ _ _ _ rfl rfl ?_; intro W9 h9 _)
              (try simp only [Exit.inBlock, Exit.then])
              refine ret_start rfl w.heap.size _ _ _ _ _ rfl h9.cell rfl ?_
              exact ⟨by rw [HR.out]; rfl, h9.below⟩
            · by_cases g2 : mn < 0
              · have HR : Hid (St.response l = (St.zero, 0, 10)) := Lib.hid (HC.out _ _ (if_pos (.inr (.inr (.inl g2)))))
                clear HC
                go_wp2_with (refine stS hR rfl (.tmp 2) (.tmp 65) rfl _ _ _ _ _ rfl rfl ?_; intro W9 h9 _)
                (try simp only [Exit.inBlock, Exit.then])
                refine ret_start rfl w.heap.size _ _ _ _ _ rfl h9.cell rfl ?_
                exact ⟨by rw [HR.out]; rfl, h9.below⟩
              · cases vl with
                | false =>
                  have HR : Hid (St.response l = (St.zero, 0, 10)) := Lib.hid (HC.out _ _ (if_pos (.inr (.inr (.inr rfl)))))
                  clear HC
                  go_wp2_with fail
                  refine (cX _).mono ?_
                  rintro e W7 ⟨rfl, rfl⟩
                  go_wp2_with (refine stS hR rfl (.tmp 2) (.tmp 65) rfl _ _ _ _ _ rfl rfl ?_; intro W9 h9 _)
                  (try simp only [Exit.inBlock, Exit.then])
                  refine ret_start rfl w.heap.size _ _ _ _ _ rfl h9.cell rfl ?_
                  exact ⟨by rw [HR.out]; rfl, h9.below⟩
                | true =>
                  have HC := Lib.hid (fun x e hxe => HC.out x e ((if_neg (by simp [g0]; omega)).trans hxe))
                  by_cases g3 : (200 : Int) < R.size
                  · have HR : Hid (St.response l = (St.zero, 0, 12)) := Lib.hid (HC.out _ _ (if_pos (by omega)))
                    clear HC
                    go_wp2_with fail
                    refine (cX _).mono ?_
                    rintro e W7 ⟨rfl, rfl⟩
                    go_wp2_with (refine stS hR rfl (.tmp 2) (.tmp 70) rfl _ _ _ _ _ rfl rfl ?_; intro W9 h9 _)
                    (try simp only [Exit.inBlock, Exit.then])
                    refine ret_start rfl w.heap.size _ _ _ _ _ rfl h9.cell rfl ?_
                    exact ⟨by rw [HR.out]; rfl, h9.below⟩
                  · have HR : Hid (sres (St.response l) = .tuple #[.agg #[.string ⟨#[]⟩, .string ⟨#[]⟩, .int .i64 K, .string R, .int .i64 mn], .int .i64 n, .int .i64 0]) := by
                      rw [HC.out X 0 (if_neg (by omega)), if_neg (by decide)]
                      exact Lib.hid (by show Value.tuple #[sval X, _, _] = _; rw [HW.out])
                    clear HC HW
                    go_wp2_with fail
                    refine (cX _).mono ?_
                    rintro e W7 ⟨rfl, rfl⟩
                    go_upto_region 12 with fail
                    clear c0 c1 c2 c3 c4
                    go_wp2_with (first | (refine ldS hN.cell rfl (.tmp 10) rfl rfl ?_) | (refine stS hR rfl (.tmp 2) (.tmp 71) rfl _ _ _ _ _ rfl rfl ?_; intro W9 h9 _))
                    (try simp only [Exit.inBlock, Exit.then])
                    refine ret_start rfl w.heap.size _ _ _ _ _ rfl h9.cell rfl ?_
                    exact ⟨by rw [HR.out]; rfl, h9.below⟩
          · have b0 : (f != 0) = true := by rw [bne, beq_eq_false_iff_ne.2 g0]; rfl
            have HR : Hid (St.response l = (St.zero, 0, 10)) := Lib.hid (HC.out _ _ (if_pos (.inl g0)))
            clear HC
            go_wp2_with (refine stS hR rfl (.tmp 2) (.tmp 65) rfl _ _ _ _ _ rfl rfl ?_; intro W9 h9 _)
            (try simp only [Exit.inBlock, Exit.then])
            refine ret_start rfl w.heap.size _ _ _ _ _ rfl h9.cell rfl ?_
            exact ⟨by rw [HR.out]; rfl, h9.below⟩
      · obtain ⟨b1, b2, b3⟩ := ne_oct s[12] 32 32 rfl h12
        have i8 : (s[8].toNat : Int) = 32 := by rw [h8]; rfl
        have HR : Hid (St.response l = (St.zero, 0, 10)) := by rw [HQ.out, St.whole_of (St.resOf_no (.inr (.inr (by rw [HI12.out p12]; exact fun e => h12 (Option.some.inj e)))))]; exact Lib.hid rfl
        clear HQ HI8 HI12 hIl hsd hs h hl hlen h8 h12 h13
        go_enter Tryz.func25, Tryz.ntmps25
        go_upto_region 1 with fail
        generalize w.alloc _ = W0 at h0 ⊢
        go_wp2_with fail
        refine (cL _ h0.below).mono ?_
        rintro e W1 ⟨rfl, rfl⟩
        go_wp2_with (refine stS h0 rfl (.tmp 2) (.tmp 34) rfl _ _ _ _ _ rfl rfl ?_; intro W9 h9 _)
        (try simp only [Exit.inBlock, Exit.then])
        refine ret_start rfl w.heap.size _ _ _ _ _ rfl h9.cell rfl ?_
        exact ⟨by rw [HR.out]; rfl, h9.below⟩
    · obtain ⟨b1, b2, b3⟩ := ne_oct s[8] 32 32 rfl h8
      have HR : Hid (St.response l = (St.zero, 0, 10)) := by rw [HQ.out, St.whole_of (St.resOf_no (.inr (.inl (by rw [HI8.out p8]; exact fun e => h8 (Option.some.inj e)))))]; exact Lib.hid rfl
      clear HQ HI8 HI12 hIl hsd hs h hl hlen h8 h13
      go_enter Tryz.func25, Tryz.ntmps25
      go_upto_region 1 with fail
      generalize w.alloc _ = W0 at h0 ⊢
      go_wp2_with fail
      refine (cL _ h0.below).mono ?_
      rintro e W1 ⟨rfl, rfl⟩
      go_wp2_with (refine stS h0 rfl (.tmp 2) (.tmp 34) rfl _ _ _ _ _ rfl rfl ?_; intro W9 h9 _)
      (try simp only [Exit.inBlock, Exit.then])
      refine ret_start rfl w.heap.size _ _ _ _ _ rfl h9.cell rfl ?_
      exact ⟨by rw [HR.out]; rfl, h9.below⟩
  · have HR : Hid (St.response l = (St.zero, 0, er)) := by rw [HQ.out, St.whole_first he]; exact Lib.hid rfl
    have be : (er != 0) = true := by rw [bne, beq_eq_false_iff_ne.2 he]; rfl
    generalize str ln = s at *
    clear HQ h hl hlen he
    go_enter Tryz.func25, Tryz.ntmps25
    go_upto_region 1 with fail
    generalize w.alloc _ = W0 at h0 ⊢
    go_wp2_with fail
    refine (cL _ h0.below).mono ?_
    rintro e W1 ⟨rfl, rfl⟩
    go_wp2_with (refine stS h0 rfl (.tmp 2) (.tmp 19) rfl _ _ _ _ _ rfl rfl ?_; intro W9 h9 _)
    (try simp only [Exit.inBlock, Exit.then])
    refine ret_start rfl w.heap.size _ _ _ _ _ rfl h9.cell rfl ?_
    exact ⟨by rw [HR.out]; rfl, h9.below⟩
end Go.Proofs.YtlbjjeonchcgbaaGreatDoor

namespace Go.Proofs.YtlbjjeonchcgbaaGreatDoor
open Go.RowKit

theorem nil_ok (g n c : Nat) : NilOk (.slice (some ⟨g, 0, none⟩) n c) := fun _ h => by injection h with h; cases h
/-- A text's octets: a row of its own. -/
theorem octets_text (s : ByteArray) (w : World) (hs : s.size ≤ 1000000) : ∃ c w', (convert 9 22 (.string s)).run Tryz.prog w = .ok (.slice (some ⟨w.heap.size, 0, none⟩) s.size c) w' ∧ BIn w' (.slice (some ⟨w.heap.size, 0, none⟩) s.size c) s.data.toList ∧ Below w.heap.size w w' := by
  have hcv := run_bytes_of_string (P := Tryz.prog) w 9 22 5 s Tryz.underlying9 Tryz.underlying22 Tryz.underlying5
  have hR := Row.copy w s (grownCap w s.size 0 5)
  have hge : s.size ≤ grownCap w s.size 0 5 := grownCap_ge w _ _ _
  have hle : grownCap w s.size 0 5 ≤ maxLen := grownCap_le_maxLen w s.size 0 5 (by unfold maxLen; omega)
  have hb1 : Below w.heap.size w ((w.drew.alloc (.cells (bytesRow s (grownCap w s.size 0 5)) 5 ((bytesRow s (grownCap w s.size 0 5)).size, (bytesRow s (grownCap w s.size 0 5)).size + 1)))) := (Below.refl _ w).drew.alloc (Nat.le_refl _) _
  have hz : s.data.toList.length = s.size := Oct.length_size s
  refine ⟨_, _, hcv, ⟨_, _, by rw [hz], by rw [hz]; exact hge, by unfold maxLen at hle; exact hle, .inr ⟨w.heap.size, 0, rfl, hR.lt, fun j hj => by rw [Nat.zero_add]; exact (hR.cell j hj).1⟩⟩, hb1⟩
/-- A constant's octets, behind their conversion. -/
theorem octets_block (w : World) (C : Array Value) (l : List UInt8) (hC : C.toList = Lib.byteCells l) (hl : l.length ≤ 1000000) : ∃ W1, (convert 22 22 (.slice (some ⟨w.heap.size, 0, none⟩) l.length l.length)).run Tryz.prog (w.alloc (.cells C 5)) = .ok (.slice (some ⟨w.heap.size, 0, none⟩) l.length l.length) W1 ∧
    BIn W1 (.slice (some ⟨w.heap.size, 0, none⟩) l.length l.length) l ∧ Below w.heap.size w W1 := by
  refine ⟨_, Lib.run_convert_bytes_const w _ _ C l.length l.length Tryz.underlying22 Tryz.underlying5, ⟨_, _, rfl, Nat.le_refl _, by omega, .inr ⟨w.heap.size, 0, rfl, by simp, fun j hj => ?_⟩⟩, (Below.refl _ w).alloc (Nat.le_refl _) _⟩
  rw [Nat.zero_add, World.cell?_alloc_mark, ← Array.getElem?_toList, hC]
  simp [Lib.byteCells, hj]
/-- 'make([]byte, n)'. -/
theorem octets_made (w : World) (n : Nat) (hn : n ≤ 1000000) : BIn (w.alloc (.cells (madeCells #[.int .u8 0] n) 5)) (.slice (some ⟨w.heap.size, 0, none⟩) n n) (List.replicate n 0) := by
  have hl : (List.replicate n (0 : UInt8)).length = n := List.length_replicate
  refine ⟨_, n, by rw [hl], by rw [hl]; exact Nat.le_refl _, by omega, .inr ⟨w.heap.size, 0, rfl, by simp, fun j hj => ?_⟩⟩
  rw [hl] at hj
  rw [Nat.zero_add, World.cell?_alloc_at _ _ _ _ rfl]
  simp [madeCells, hj, Nat.mod_one]
/-- '[]byte{}'. -/
theorem Buf.none_ (W w : World) (hb : Below W.heap.size W w) : Buf W (w.alloc (.cells #[] 5)) (.slice (some ⟨w.heap.size, 0, none⟩) 0 0) [] :=
  ⟨World.ownsRow_made w #[] 0 hb.size (by decide) rfl, hb.alloc hb.size _⟩
theorem Buf.bin {W w : World} {v : Value} {l : List UInt8} (h : Buf W w v l) (hv : v ≠ .slice none 0 0) : BIn w v l ∧ NilOk v := by
  rcases h.1.2 with ⟨h0, _⟩ | ⟨g, cap, cur, hv', hg, hh, h1, h2, h3, h4⟩
  · exact absurd h0 hv
  · refine ⟨⟨_, cap, hv', h1, by unfold maxLen at h2; omega, .inr ⟨g, 0, rfl, lt_of_block hh, fun j hj => ?_⟩⟩, by rw [hv']; exact nil_ok g _ _⟩
    have h5 : cur.toList[j]? = some (.int .u8 (l[j].toNat : Int)) := by
      have h6 : (cur.toList.take (l.length * 1))[j]? = (Lib.byteCells l)[j]? := by rw [h4]
      rw [List.getElem?_take_of_lt (by omega)] at h6
      rw [h6]; simp [Lib.byteCells, hj]
    rw [Nat.zero_add]
    simp only [World.cell?, hh]
    simpa using h5
/-- 'append(b, c..)'. -/
theorem appBs {ops : Array Oper} {rest : List Oper} {o : Oper} {a : Act} {Q : Exit → Act → World → Prop} {W w : World} {v u : Value} {l m : List UInt8} (h : Buf W w v l) (hu : BIn w u m) (hnil : NilOk u) (hlen : l.length + m.length ≤ 1000000000)
    (hgd : o.guard = none) (s x : Operand) (ho : o.op = .call { callee := .builtin .append, args := #[s, x], argTypes := #[22, 22] })
    (hs : a.eval s = v) (hx : a.eval x = u)
    (hK : ∀ v' w', Buf W w' v' (l ++ m) → (v ≠ .slice none 0 0 → v' ≠ .slice none 0 0) → wpList Tryz.prog ops Q rest (a.put o.dst v') w') : wpList Tryz.prog ops Q (o :: rest) a w := by
  obtain ⟨i0, hi, hz0, hz1, hz2⟩ := info_parts bytes_info
  obtain ⟨ao, cap, rfl, hlc, _, hg⟩ := hu
  cases ao with
  | none =>
    have h0 : m = [] := by
      rcases hg with h | ⟨b, o, h, _⟩
      · exact h
      · cases h
    subst h0
    obtain rfl : cap = 0 := hnil cap rfl
    refine wpList_append_own_none hgd s x _ ho W.heap.size 5 i0 1 Tryz.underlying22 hi v l.length (Lib.byteCells l) hs h.1 hx ?_
    have := hK v w
    rw [List.append_nil] at this
    exact this h id
  | some ad =>
    refine wpList_append_own _ hgd s x _ ho W.heap.size 5 i0 _ 1 1 Tryz.underlying22 hi hz0 hz1 hz2 rfl (by decide) v l.length (Lib.byteCells l) hs h.1 ad m.length cap (Lib.byteCells m) hx (by rw [Lib.byteCells_length]; omega) ?_ ?_ (by unfold maxLen; omega) (by omega) h.2.size (fun v' w' h1 h2 h3 => ?_)
    · intro j c hj
      have hjl : j < m.length := by
        have := (List.getElem?_eq_some_iff.1 hj).1
        rw [Lib.byteCells_length] at this; exact this
      rcases hg with h | ⟨b, o, h, hb, hc⟩
      · subst h; simp at hjl
      · cases h
        rw [Addr.add_lit, hc j hjl]
        rw [← hj]; simp [Lib.byteCells, hjl]
    · intro c hc
      unfold Lib.byteCells at hc
      obtain ⟨d, _, rfl⟩ := List.mem_map.1 hc
      rfl
    · refine hK v' w' ⟨?_, h.2.grown h2 h.2.size (fun k hk => (h.1.lt k hk).1)⟩ (fun hv hv' => hv (h3.1 hv').1)
      have e : Lib.byteCells (l ++ m) = Lib.byteCells l ++ Lib.byteCells m := by simp [Lib.byteCells]
      rw [e, List.length_append]; exact h1
/-- Octets as a text. -/
theorem BIn.all {w : World} {v : Value} {l : List UInt8} (h : BIn w v l) (hn : NilOk v) : (convert 22 9 v).run Tryz.prog w = .ok (.string (str l)) w := by
  obtain ⟨ao, cap, rfl, h1, h2, hg⟩ := h
  rcases hg with rfl | ⟨b, o, rfl, hb, hc⟩
  · cases ao with
    | none =>
      obtain rfl : cap = 0 := hn cap rfl
      exact (Buf.nil w).string
    | some ad => exact run_convert_bytes_back w _ _ _ ad cap [] Tryz.underlying22 Tryz.underlying5 Tryz.underlying9 (fun j hj => by cases hj)
  · have := BIn.text (w := w) (cap := cap) hc l.length (Nat.le_refl _)
    rw [List.take_length] at this
    exact this
end Go.Proofs.YtlbjjeonchcgbaaGreatDoor
