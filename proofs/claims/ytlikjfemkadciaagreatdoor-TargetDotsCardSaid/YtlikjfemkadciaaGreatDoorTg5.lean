/- Package target: a host and a port; a coded octet. -/
import Derived.Test.YtlikjfemkadciaaGreatDoorTg4
namespace Go.Proofs.YtlikjfemkadciaaGreatDoor
open Go.RowKit

/-- A URI in memory. -/
def uval (u : Tg.U) : Value := .agg #[.string (str u.host), .int .i64 u.port, .string (str u.path)]
theorem uval_mk (h : List UInt8) (k : Int) (p : List UInt8) : uval ⟨h, k, p⟩ = .agg #[.string (str h), .int .i64 k, .string (str p)] := rfl

theorem close_ix (l : List UInt8) : Lib.indexByte l 93 + 1 = (Tg.closeAt l : Int) := by
  have h := ahead_index Tg.close [93] (fun c => by simp [Tg.close, Bool.beq_eq_decide_eq]) l
  have e : Lib.indexAny l [93] = Lib.indexByte l 93 := by
    have : ∀ l : List UInt8, Lib.indexAny l [93] = Lib.indexByte l 93 := by
      intro l
      induction l with
      | nil => rfl
      | cons b t ih =>
        unfold Lib.indexAny Lib.indexByte
        rw [ih]
        have : [93].contains b = (b == 93) := by simp [Bool.beq_eq_decide_eq]
        rw [this]
    exact this l
  rw [e] at h
  have hle := Tg.ahead_le Tg.close l
  unfold Tg.closeAt
  rcases h with ⟨h1, h2⟩ | ⟨h1, h2⟩
  · rw [h1, if_neg (by omega)]; rfl
  · have hlt : Tg.ahead Tg.close l < l.length := by
      have hne : ∀ l : List UInt8, Tg.ahead Tg.close l = l.length → Lib.indexByte l 93 = -1 := by
        intro l
        induction l with
        | nil => intro _; rfl
        | cons b t ih =>
          intro hh
          unfold Tg.ahead at hh
          split at hh
          · simp at hh
          · rename_i hb
            have hb2 : (b == 93) = false := by simpa [Tg.close] using hb
            unfold Lib.indexByte
            rw [hb2, ih (by simpa using hh)]; rfl
      rcases Nat.lt_or_ge (Tg.ahead Tg.close l) l.length with h3 | h3
      · exact h3
      · have := hne l (by omega); omega
    rw [if_pos hlt]; omega
theorem site_some (l : List UInt8) (h : Tg.isHost (l.take (Tg.cutP l)) = true) {k : Int} (hk : Tg.portOf (l.drop (Tg.cutP l)) = some k) : Tg.site l = some (Oct.lower (l.take (Tg.cutP l)), k) := by
  unfold Tg.site Tg.siteAt; rw [if_pos h, hk]; rfl
theorem site_none1 (l : List UInt8) (h : Tg.isHost (l.take (Tg.cutP l)) = false) : Tg.site l = none := by
  unfold Tg.site Tg.siteAt; rw [if_neg (by rw [h]; decide)]
theorem site_none2 (l : List UInt8) (h : Tg.portOf (l.drop (Tg.cutP l)) = none) : Tg.site l = none := by
  unfold Tg.site Tg.siteAt; split
  · rw [h]; rfl
  · rfl
/-- What site answers. -/
def sres : Option (List UInt8 × Int) → Value
  | none => .tuple #[uval Tg.zero, .bool false]
  | some x => .tuple #[uval ⟨x.1, x.2, []⟩, .bool true]
theorem set3 {w : World} {g : Nat} {a b c : Value} {t : TypeId} (h : w.heap[g]? = some (.cells #[a, b, c] t (0, 0))) (x y z : Value) :
    (((w.setCell ⟨g, 0, none⟩ x).setCell ⟨g, 1, none⟩ y).setCell ⟨g, 2, none⟩ z).heap[g]? = some (.cells #[x, y, z] t (0, 0)) := by
  simp [World.setCell, Array.getElem?_modify, h]

theorem results_uri {fn : Func} {p u : Tmp} (h : fn.results = #[.cell p 24, .tmp u]) (tmps : Array Value) (w : World) (g : Nat) (x y z : Value)
    (hp : tmps.getD p undef = .pointer (some ⟨g, 0, none⟩)) (hg : w.heap[g]? = some (.cells #[x, y, z] 24 (0, 0))) :
    (results fn tmps).run Tryz.prog w = .ok (.tuple #[.agg #[x, y, z], tmps.getD u undef]) w := by
  have e := run_loadVar_row (P := Tryz.prog) w g 24 24 #[x, y, z] (0, 0) _ hg Tryz.underlying24 rfl (by kernel_rfl)
  rw [results_cell_tmp h, hp]
  simp [Result.andThen, asAddr, e]
/-- A URI and one thing more are handed back. -/
theorem ret_uri {fn : Func} {p u : Tmp} (h : fn.results = #[.cell p 24, .tmp u]) {R : Ending → World → Prop} {a : Act} {w : World} (g : Nat) (x y z : Value)
    (hp : a.tmps.getD p undef = .pointer (some ⟨g, 0, none⟩)) (hg : w.heap[g]? = some (.cells #[x, y, z] 24 (0, 0))) (hd : a.defers = []) (hR : R (.returned (.tuple #[.agg #[x, y, z], a.tmps.getD u undef])) w) : bodyPost Tryz.prog fn R .ret a w :=
  bodyPost_ret (v := .tuple #[.agg #[x, y, z], a.tmps.getD u undef]) (results_uri h _ _ g x y z hp hg) hd hR
/-- The result's block, and what came since. -/
structure Res (w : World) (g : Nat) (W : World) (x y z : Value) : Prop where
  cell : W.heap[g]? = some (.cells #[x, y, z] 24 (0, 0))
  below : Below w.heap.size w W
  ge : w.heap.size ≤ g
theorem Res.later {w : World} {g : Nat} {W W' : World} {x y z : Value} (h : Res w g W x y z) (hb : Below W.heap.size W W') : Res w g W' x y z :=
  ⟨(hb.block _ (lt_of_block h.cell)).trans h.cell, h.below.trans (hb.mono h.below.size), h.ge⟩
theorem Res.alloc {w : World} {g : Nat} {W : World} {x y z : Value} (h : Res w g W x y z) (o : Obj) : Res w g (W.alloc o) x y z := h.later ((Below.refl _ _).alloc (Nat.le_refl _) o)
theorem Res.start (w : World) (x y z : Value) : Res w w.heap.size (w.alloc (.cells #[x, y, z] 24)) x y z :=
  ⟨heap_alloc_new w _, (Below.refl _ _).alloc (Nat.le_refl _) _, Nat.le_refl _⟩
theorem Res.set {w : World} {g : Nat} {W : World} {x y z : Value} (h : Res w g W x y z) (x' y' z' : Value) : Res w g (((W.setCell ⟨g, 0, none⟩ x').setCell ⟨g, 1, none⟩ y').setCell ⟨g, 2, none⟩ z') x' y' z' :=
  ⟨set3 h.cell x' y' z', ((h.below.setCell (p := ⟨g, 0, none⟩) h.ge x').setCell (p := ⟨g, 1, none⟩) h.ge y').setCell (p := ⟨g, 2, none⟩) h.ge z', h.ge⟩

/-- A URI is stored into the result's block: whole, in one step. -/
theorem stU {ops : Array Oper} {rest : List Oper} {o : Oper} {a : Act} {Q : Exit → Act → World → Prop} {w0 W : World} {g : Nat} {x y z : Value} (h : Res w0 g W x y z)
    (hgd : o.guard = none) (px py : Operand) (ho : o.op = .store 24 px py) (x' : ByteArray) (y' : Int) (z' : ByteArray) (hx : a.eval px = .pointer (some ⟨g, 0, none⟩)) (hy : a.eval py = .agg #[.string x', .int .i64 y', .string z'])
    (hK : ∀ W', Res w0 g W' (.string x') (.int .i64 y') (.string z') → (∀ k, k ≠ g → W'.heap[k]? = W.heap[k]?) → wpList Tryz.prog ops Q rest (a.put o.dst undef) W') : wpList Tryz.prog ops Q (o :: rest) a W := by
  refine wpList_store_row hgd 24 px py ho g #[.string x', .int .i64 y', .string z'] hx hy 24 #[x, y, z] h.cell (by kernel_rfl) rfl (by simp [Value.oneCell']) (hK _ ⟨?_, ?_, h.ge⟩ ?_)
  · have hlt := lt_of_block h.cell
    simp [World.setRow, Array.getElem?_modify, h.cell]
  · refine h.below.trans ⟨rfl, rfl, rfl, by simp [World.setRow], fun k hk => ?_⟩
    have hne : g ≠ k := by have := h.ge; omega
    simp [World.setRow, Array.getElem?_modify, hne]
  · intro k hk
    simp [World.setRow, Array.getElem?_modify, hk.symm]
/-- A URI is loaded. -/
theorem ldU {ops : Array Oper} {rest : List Oper} {o : Oper} {a : Act} {Q : Exit → Act → World → Prop} {W : World} {g : Nat} {x y z : Value} (h : W.heap[g]? = some (.cells #[x, y, z] 24 (0, 0)))
    (hgd : o.guard = none) (px : Operand) (ho : o.op = .load 24 px) (hx : a.eval px = .pointer (some ⟨g, 0, none⟩))
    (hK : wpList Tryz.prog ops Q rest (a.put o.dst (.agg #[x, y, z])) W) : wpList Tryz.prog ops Q (o :: rest) a W :=
  wpList_load_row hgd 24 px ho g hx 24 #[x, y, z] (0, 0) _ h Tryz.underlying24 rfl (by kernel_rfl) hK

set_option maxHeartbeats 1600000 in
set_option maxRecDepth 100000 in
theorem site_s (l : List UInt8) (w : World) (hl : l.length ≤ 1000000) :
    Calls Tryz.prog 22 #[.string (str l)] w fun e w' => e = .returned (sres (Tg.site l)) ∧ Below w.heap.size w w' := by
  obtain ⟨s, hs⟩ : ∃ s, s = str l := ⟨_, rfl⟩
  have hsl : s.data.toList = l := by rw [hs, str_list]
  have hsz : s.size = l.length := by rw [hs, str_size]
  rw [← hs]
  have cI := fun w => Tryz.strings_IndexByte s 93 w
  have e93 : ((93 : Int).toNat.toUInt8) = 93 := rfl
  rw [hsl, e93] at cI
  have hci := close_ix l
  have hcl := Tg.closeAt_le l
  generalize Lib.indexByte l 93 = X at *
  obtain ⟨C, hC⟩ : ∃ C, C = Tg.closeAt l := ⟨_, rfl⟩
  rw [← hC] at hci hcl
  have hXw : IntKind.i64.wrap (X + 1) = (C : Int) := by rw [hci]; rw [IntKind.wrap_i64]; omega
  have cA := fun w => ahead_colon (s.extract C s.size) w (by simp; omega)
  have exC : (s.extract C s.size).data.toList = l.drop C := by rw [Lib.extract_data, hsl, List.take_of_length_le]; rw [List.length_drop]; omega
  rw [exC] at cA
  obtain ⟨N, hN⟩ : ∃ N, N = Tg.cutP l := ⟨_, rfl⟩
  have hNC : N = C + Tg.ahead Tg.colon (l.drop C) := by rw [hN, hC]; rfl
  have hNl : N ≤ l.length := by rw [hN]; exact Tg.cutP_le l
  have cP := fun w => portOf_s (s.extract N s.size) w (by simp; omega)
  have exN : (s.extract N s.size).data.toList = l.drop N := by rw [Lib.extract_data, hsl, List.take_of_length_le]; rw [List.length_drop]; omega
  have cH := fun w => isHost_s (s.extract 0 N) w (by simp; omega)
  have ex0 : (s.extract 0 N).data.toList = l.take N := by rw [Lib.extract_data, hsl]; simp
  have cL := fun w => Lower_s (s.extract 0 N) w (by simp; omega)
  rw [exN] at cP
  rw [ex0] at cH cL
  have S1 : Tg.isHost (l.take (Tg.cutP l)) = true → ∀ k, Tg.portOf (l.drop (Tg.cutP l)) = some k → Tg.site l = some (Oct.lower (l.take (Tg.cutP l)), k) := fun h k hk => site_some l h hk
  have S2 := site_none1 l
  have S3 := site_none2 l
  rw [← hN] at S1 S2 S3
  generalize Tg.ahead Tg.colon (l.drop C) = A at *
  have hAw : IntKind.i64.wrap ((C : Int) + (A : Int)) = (N : Int) := by rw [show (C : Int) + A = (N : Int) by omega]; rw [IntKind.wrap_i64]; omega
  generalize Tg.isHost (l.take N) = ih at *
  generalize Oct.lower (l.take N) = lo at *
  generalize Tg.portOf (l.drop N) = po at *
  have hCs : (C : Int) ≤ s.size := by omega
  have hNs : (N : Int) ≤ s.size := by omega
  clear exC exN ex0 hC hN hNC hsl hs hci
  clear hsz hcl hNl hl
  have HS1 := Lib.hid S1
  have HS2 := Lib.hid S2
  have HS3 := Lib.hid S3
  clear S1 S2 S3
  go_enter Tryz.func22, Tryz.ntmps22
  go_upto_region 1 with fail
  have hR0 := Res.start w (.string ⟨#[]⟩) (.int .i64 0) (.string ⟨#[]⟩)
  generalize w.alloc (.cells #[.string ⟨#[]⟩, .int .i64 0, .string ⟨#[]⟩] 24) = W at hR0 ⊢
  generalize w.heap.size = G at hR0 ⊢
  go_wp2_with fail
  refine (cI _).mono ?_
  rintro e W' ⟨rfl, rfl⟩
  go_wp2_with fail
  refine (cA _).mono ?_
  rintro e W1 ⟨rfl, hb1⟩
  have hR1 := hR0.later hb1
  go_wp2_with fail
  refine (cP _).mono ?_
  rintro e W2 ⟨⟨k, b, rfl, hpo⟩, hb2⟩
  have hR2 := hR1.later hb2
  clear cI cA cP hb1 hb2 hR0 hR1
  cases b with
  | false =>
    have HV : Hid (Tg.site l = none) := HS3.out hpo
    clear hpo cH cL
    go_wp2_with (refine stU hR2 rfl (.tmp 2) (.tmp 32) rfl _ _ _ rfl rfl ?_; intro W3 hR3 _)
    (try simp only [Exit.inBlock, Exit.then])
    refine ret_uri rfl G _ _ _ rfl hR3.cell rfl ?_
    exact ⟨by rw [HV.out]; rfl, hR3.below⟩
  | true =>
    cases ih with
    | false =>
      have HV : Hid (Tg.site l = none) := HS2.out rfl
      clear cL
      go_wp2_with fail
      refine (cH _).mono ?_
      rintro e W3 ⟨rfl, hb3⟩
      have hR3 := hR2.later hb3
      go_wp2_with (refine stU hR3 rfl (.tmp 2) (.tmp 32) rfl _ _ _ rfl rfl ?_; intro W4 hR4 _)
      (try simp only [Exit.inBlock, Exit.then])
      refine ret_uri rfl G _ _ _ rfl hR4.cell rfl ?_
      exact ⟨by rw [HV.out]; rfl, hR4.below⟩
    | true =>
      have HV : Hid (Tg.site l = some (lo, k)) := HS1.out rfl k hpo
      go_wp2_with fail
      refine (cH _).mono ?_
      rintro e W3 ⟨rfl, hb3⟩
      have hR3 := hR2.later hb3
      go_wp2_with fail
      refine (cL _).mono ?_
      rintro e W4 ⟨rfl, hb4⟩
      have hR4 := hR3.later hb4
      go_wp2_with (refine stU hR4 rfl (.tmp 2) (.tmp 38) rfl _ _ _ rfl rfl ?_; intro W5 hR5 _)
      (try simp only [Exit.inBlock, Exit.then])
      refine ret_uri rfl G _ _ _ rfl hR5.cell rfl ?_
      exact ⟨by rw [HV.out]; rfl, hR5.below⟩
end Go.Proofs.YtlikjfemkadciaaGreatDoor
