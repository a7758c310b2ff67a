/- What lies below, out of the texts of the layers under this one: CkP5, CkP6. -/
import Derived.Test.YtlbjjeonchcgbaaGreatDoorCkPa
namespace Ck
theorem nx_nil {s : S} (hg : Good s) : nx s [] = (0, 0) := by
  cases s with
  | size t => show lineLen [] = _; decide
  | data t n => show (min ([] : L).length n, (0 : Int)) = _; simp
  | tail t => rfl
  | trail k => show lineLen [] = _; decide
  | over => rfl
theorem prog_data {s : S} {l : L} {k : Nat} (hg : Good s) (h : nx s l = (k, 0)) (hk : 0 < k) (he : (tk s (l.take k)).2 = 0) : go s l = sh (said s (l.take k)) k (go (tk s (l.take k)).1 (l.drop k)) := by
  have := (prog_part hg h hk).1
  rw [if_pos he] at this
  exact this
theorem prog_bad {s : S} {l : L} {k : Nat} (hg : Good s) (h : nx s l = (k, 0)) (hk : 0 < k) (he : (tk s (l.take k)).2 ≠ 0) : (go s l).2.2.2 = (tk s (l.take k)).2 := by
  have := (prog_part hg h hk).1
  rw [if_neg he] at this
  rw [this]
theorem said_len (s : S) (p : L) : (said s p).length ≤ p.length := by
  cases s <;> first | exact Nat.le_refl _ | exact Nat.zero_le _
end Ck
namespace Go.Proofs.YtlbjjeonchcgbaaGreatDoor
open Go.RowKit

theorem BIn.but {w W : World} {g : Nat} {v : Value} {l : List UInt8} {a n t k e : Int} (h : BIn w v l) (hd : DAt w g a n t k e) (hb : But g w W) : BIn W v l := by
  obtain ⟨ao, cap, hv, h1, h2, hg⟩ := h
  refine ⟨ao, cap, hv, h1, h2, ?_⟩
  rcases hg with h | ⟨b, o, h3, h4, h5⟩
  · exact .inl h
  · by_cases hl : l = []
    · exact .inl hl
    · refine .inr ⟨b, o, h3, Nat.lt_of_lt_of_le h4 hb.size, fun j hj => ?_⟩
      have hbg : b ≠ g := by
        rintro rfl
        have h6 := h5 0 (List.length_pos_iff.2 hl)
        rw [hd.cell] at h6
        rcases o with _ | _ | _ | _ | _ | o <;> simp [dcells] at h6
      rw [← h5 j hj]
      simp only [World.cell?]
      rw [hb.block b h4 hbg]
theorem But.more {g : Nat} {a b c : World} (h : But g a b) (h' : Below a.heap.size b c) : But g a c :=
  ⟨h'.os.trans h.os, h'.tape.trans h.tape, h'.output.trans h.output, Nat.le_trans h.size h'.size, fun k hk hne => (h'.block k hk).trans (h.block k hk hne)⟩
/-- A row of the call's own, where one elder block may have changed. -/
structure RowB (W : World) (g : Nat) (w : World) (v : Value) (l : List UInt8) : Prop where
  row : w.ownsRow W.heap.size 5 1 v l.length (Lib.byteCells l)
  but : But g W w
theorem RowB.nil (W : World) (g : Nat) : RowB W g W (.slice none 0 0) [] := ⟨World.ownsRow_nil _ _ _ _, But.refl g W⟩
theorem RowB.step {W w w' : World} {g : Nat} {v : Value} {l : List UInt8} (h : RowB W g w v l) (hg : g < W.heap.size) (hb : But g w w') : RowB W g w' v l := by
  refine ⟨⟨h.row.1, ?_⟩, h.but.trans hb⟩
  rcases h.row.2 with h0 | ⟨k, cap, cur, hv, hk, hh, rest⟩
  · exact .inl h0
  · exact .inr ⟨k, cap, cur, hv, hk, by rw [hb.block k (lt_of_block hh) (by omega)]; exact hh, rest⟩
theorem appRowB {ops : Array Oper} {rest : List Oper} {o : Oper} {a : Act} {Q : Exit → Act → World → Prop} {W w : World} {g : Nat} {v u : Value} {l m : List UInt8} (h : RowB W g w v l) (hg : g < W.heap.size) (hu : BIn w u m) (hnil : NilOk u) (hlen : l.length + m.length ≤ 1000000000)
    (hgd : o.guard = none) (s x : Operand) (ho : o.op = .call { callee := .builtin .append, args := #[s, x], argTypes := #[22, 22] })
    (hs : a.eval s = v) (hx : a.eval x = u)
    (hK : ∀ v' w', RowB W g w' v' (l ++ m) → w'.heap[g]? = w.heap[g]? → wpList Tryz.prog ops Q rest (a.put o.dst v') w') : wpList Tryz.prog ops Q (o :: rest) a w := by
  have hO : Own { W with heap := #[] } W.heap.size w v l := ⟨h.row, ⟨h.but.os, h.but.tape, h.but.output, Nat.zero_le _, fun k hk => absurd hk (Nat.not_lt_zero k)⟩, Nat.zero_le _, h.but.size⟩
  exact appOwn hO hu hnil hlen hgd s x ho hs hx (fun v' w' h1 h2 _ => hK v' w' ⟨h1.row, h.but.more h2⟩ (h2.block g hg))
theorem MaxOk.but {w W : World} {g : Nat} (h : MaxOk w) (hg : 1 ≠ g) (hb : But g w W) : MaxOk W := by
  obtain ⟨m, h⟩ := h
  refine ⟨m, ?_⟩
  rw [← h]
  have hl := World.block_lt_of_cell? w _ h
  simp only [World.cell?]
  rw [hb.block _ hl hg]

theorem Dst.fault {w : World} {g : Nat} {s : Ck.S} {e : Int} (h : Dst w g s e) (e' : Int) : Dst (w.setCell ⟨g, 4, none⟩ (.int .i64 e')) g s e' := by
  obtain ⟨hg, h⟩ := h
  refine ⟨hg, ?_⟩
  cases s with
  | size t => exact DAt.put h 4 _ rfl
  | data t n => exact DAt.put h 4 _ rfl
  | tail t => exact DAt.put h 4 _ rfl
  | trail k => obtain ⟨t, h⟩ := h; exact ⟨t, h.put 4 _ rfl⟩
  | over => obtain ⟨t, k, h⟩ := h; exact ⟨t, k, h.put 4 _ rfl⟩
/-- So far. -/
def Fed (s : Ck.S) (l acc : List UInt8) (K : Nat) (w : World) (g : Nat) : Prop :=
  (∃ s', Ck.go s l = Ck.sh acc K (Ck.go s' (l.drop K)) ∧ acc.length ≤ K ∧ Dst w g s' 0) ∨ (∃ er, er ≠ 0 ∧ (Ck.go s l).2.2.2 = er ∧ ∃ a n t k, DAt w g a n t k er)
/-- A decoder in memory; or an error that stays. -/
def Dec (w : World) (g : Nat) : Ck.S ⊕ Int → Prop
  | .inl s => Dst w g s 0
  | .inr er => er ≠ 0 ∧ ∃ a n t k, DAt w g a n t k er
/-- What Feed answers. -/
def Says (s : Ck.S) (l : List UInt8) (w : World) (g : Nat) (x : Ending) (w' : World) : Prop :=
  (∃ u, x = .returned (.tuple #[u, .int .i64 (Ck.fed s l).2.1, .bool (Ck.fed s l).2.2.1, .int .i64 (Ck.fed s l).2.2.2]) ∧ w'.ownsRow w.heap.size 5 1 u (Ck.fed s l).1.length (Lib.byteCells (Ck.fed s l).1)) ∧ But g w w' ∧ Dec w' g (Ck.next s l)
theorem says_bad {s : Ck.S} {l : List UInt8} {w w' : World} {g : Nat} {er : Int} (h0 : er ≠ 0) (h : (Ck.go s l).2.2.2 = er) (hb : But g w w') (hd : ∃ a n t k, DAt w' g a n t k er) : Says s l w g (.returned (.tuple #[.slice none 0 0, .int .i64 0, .bool false, .int .i64 er])) w' := by
  have e1 : Ck.fed s l = ([], 0, false, er) := by unfold Ck.fed; rw [h, if_pos h0]
  have e2 : Ck.next s l = .inr er := by unfold Ck.next; rw [h, if_pos h0]
  unfold Says
  rw [e1, e2]
  exact ⟨⟨_, rfl, World.ownsRow_nil _ _ _ _⟩, hb, h0, hd⟩
theorem says_good {s s' : Ck.S} {l acc : List UInt8} {K : Nat} {w w' : World} {g : Nat} {v : Value} (h : Ck.go s l = (acc, K, s', 0)) (hr : RowB w g w' v acc) (hd : Dst w' g s' 0) : Says s l w g (.returned (.tuple #[v, .int .i64 K, .bool (Ck.isOver s'), .int .i64 0])) w' := by
  have e1 : Ck.fed s l = (acc, K, Ck.isOver s', 0) := by unfold Ck.fed; rw [h, if_neg (by simp)]
  have e2 : Ck.next s l = .inl s' := by unfold Ck.next; rw [h, if_neg (by simp)]
  unfold Says
  rw [e1, e2]
  exact ⟨⟨_, rfl, hr.row⟩, hr.but, hd⟩
theorem Dec.same {w w' : World} {g : Nat} {st : Ck.S ⊕ Int} (h : Dec w g st) (hb : w'.heap[g]? = w.heap[g]?) : Dec w' g st := by
  cases st with
  | inl s => exact Dst.same h hb
  | inr er => obtain ⟨h0, a, n, t, k, h⟩ := h; exact ⟨h0, a, n, t, k, h.same hb⟩
theorem Dec.lt {w : World} {g : Nat} {st : Ck.S ⊕ Int} (h : Dec w g st) : g < w.heap.size := by
  cases st with
  | inl s => obtain ⟨_, _, _, _, hA, _, _⟩ := Dst.cells h; exact hA.lt
  | inr er => obtain ⟨_, _, _, _, _, h⟩ := h; exact h.lt
theorem row_later {w w' : World} {base e s n : Nat} {v : Value} {xs : List Value} (h : w.ownsRow base e s v n xs) (hb : Below w.heap.size w w') : w'.ownsRow base e s v n xs :=
  row_after h (fun g cur hc => by rw [hb.block g (lt_of_block hc)]; exact hc)
theorem Says.later {s : Ck.S} {l : List UInt8} {w w' W : World} {g : Nat} {x : Ending} (h : Says s l w g x w') (hb : Below w'.heap.size w' W) : Says s l w g x W := by
  obtain ⟨⟨u, h1, h2⟩, h3, h4⟩ := h
  exact ⟨⟨u, h1, row_later h2 hb⟩, h3.trans (But.of hb), h4.same (hb.block g h4.lt)⟩
theorem due_of {s : Ck.S} {l : List UInt8} {k : Nat} (h : Ck.nx s l = (k, 0)) (hk : 0 < k) : Due s (l.take k) := by
  have hlen : (l.take k).length ≤ k := by rw [List.length_take]; exact Nat.min_le_left _ _
  cases s with
  | size t => exact Nat.le_trans hlen (Nat.le_trans (Ck.lineLen_some h hk).2.2.1 (by decide))
  | data t n =>
    have : min l.length n = k := congrArg Prod.fst h
    exact Nat.le_trans hlen (by omega)
  | tail t => trivial
  | trail j => exact Nat.le_trans hlen (Nat.le_trans (Ck.lineLen_some h hk).2.2.1 (by decide))
  | over =>
    have : (0 : Nat) = k := congrArg Prod.fst h
    omega
theorem over_four {s : Ck.S} {a : Int} (h : a = 4 ↔ s = .over) : (a == 4) = Ck.isOver s := by
  by_cases ha : a = 4
  · have := h.1 ha
    subst this ha; rfl
  · rw [beq_eq_false_iff_ne.2 ha]
    cases s with
    | over => exact absurd (h.2 rfl) ha
    | size t => rfl
    | data t n => rfl
    | tail t => rfl
    | trail k => rfl

theorem fed_step {s s' : Ck.S} {l acc P : List UInt8} {K k' : Nat} {w : World} {g : Nat} (hgo : Ck.go s l = Ck.sh acc K (Ck.go s' (l.drop K))) (hacc : acc.length ≤ K) (hg : Ck.Good s') (hnx : Ck.nx s' (l.drop K) = (k', 0)) (hk : 0 < k') (hP : P = (l.drop K).take k') (hPl : P.length = k') (hd : Dst w g (Ck.tk s' P).1 0) :
    Fed s l (acc ++ Ck.said s' P) (K + k') (w.setCell ⟨g, 4, none⟩ (.int .i64 (Ck.tk s' P).2)) g := by
  have hsl := Ck.said_len s' P
  by_cases he : (Ck.tk s' P).2 = 0
  · left
    have h1 := Ck.prog_data hg hnx hk (by rw [← hP]; exact he)
    rw [← hP] at h1
    refine ⟨(Ck.tk s' P).1, ?_, by rw [List.length_append]; omega, ?_⟩
    · rw [hgo, h1, Ck.sh_sh, List.drop_drop]
    · have := hd.fault (Ck.tk s' P).2
      rw [he] at this ⊢
      exact this
  · right
    have h1 := Ck.prog_bad hg hnx hk (by rw [← hP]; exact he)
    rw [← hP] at h1
    obtain ⟨a, n, t, k, hA, _, _⟩ := hd.cells
    exact ⟨_, he, by rw [hgo]; exact h1, a, n, t, k, hA.put 4 _ rfl⟩
set_option maxHeartbeats 6400000 in
set_option maxRecDepth 100000 in
theorem feed_some (g : Nat) (s : Ck.S) (ad : Addr) (c : Nat) (l : List UInt8) (w : World) (hl : l.length ≤ 10000000) (h : BIn w (.slice (some ad) l.length c) l) (hd : Dst w g s 0) (hm : MaxOk w) (hgne : 1 ≠ g) :
    Calls Tryz.prog 95 #[.pointer (some ⟨g, 0, none⟩), .slice (some ad) l.length c] w fun x w' => Says s l w g x w' := by
  have hgw : g < w.heap.size := by obtain ⟨_, _, _, _, hA, _, _⟩ := hd.cells; exact hA.lt
  have HV := Lib.hid (fun (W : World) (hb : But g w W) => (by obtain ⟨_, _, _, _, hA, _, _⟩ := hd.cells; exact h.but hA hb : BIn W (.slice (some ad) l.length c) l))
  have HM := Lib.hid (fun (W : World) (hb : But g w W) => hm.but hgne hb)
  have HF0 : Hid (Fed s l [] 0 w g) := Lib.hid (.inl ⟨s, by rw [List.drop_zero, Ck.sh_none], Nat.le_refl _, hd⟩)
  have HLB := Lib.hid hl
  obtain ⟨ao', cap, hv, hlc, hc9, _⟩ := h
  obtain rfl : c = cap := (Value.slice.inj hv).2.2
  obtain ⟨L, hL⟩ : ∃ L, L = l.length := ⟨_, rfl⟩
  have HL := Lib.hid hL
  rw [← hL] at hlc HV ⊢
  clear hv hL hl hd hm hgne
  go_enter Tryz.func95, Tryz.ntmps95
  go_wp2_with fail
  go_loopw [8, 9] (fun x8 x9 wr => ∃ (acc : List UInt8) (K : Nat), x9 = .int .i64 K ∧ K ≤ L ∧ RowB w g wr x8 acc ∧ Fed s l acc K wr g) (fun _ x9 _ => L - (intOf x9).toNat)
  case atStart => exact ⟨[], 0, rfl, Nat.zero_le _, RowB.nil w g, HF0.out⟩
  case round =>
    obtain ⟨acc, K, rfl, hK, hR, hF⟩ := hrel
    rcases hF with ⟨s', hgo, hacc, hD⟩ | ⟨er, her, hge, a, n, t, k, hA⟩
    case inr =>
      obtain ⟨c0, c1, c2, c3, c4⟩ := hA.cells
      have heb : (er == 0) = false := beq_eq_false_iff_ne.2 her
      have HS := Lib.hid (says_bad her hge hR.but ⟨a, n, t, k, hA⟩)
      clear hA hge her hR hK
      go_wp2_with fail
      go_region
      go_wp2_with fail
      refine ret_four rfl rfl ?_
      exact HS.out.later (Below.refl _ _).drew
    case inl =>
      obtain ⟨a, n, t, k, hA, ha4, ha1⟩ := hD.cells
      obtain ⟨c0, c1, c2, c3, c4⟩ := hA.cells
      have hov := over_four ha4
      have hKl : K ≤ l.length := by rw [← HL.out]; exact hK
      have hmid := fun (W : World) (hb : But g w W) => (HV.out W hb).mid K L hK (by rw [HL.out]; exact Nat.le_refl _)
      rw [show (l.take L).drop K = l.drop K by rw [HL.out, List.take_length]] at hmid
      have cN0 := next_w g s' _ (l.drop K) wr (by rw [List.length_drop]; have := HLB.out; omega) hD (hmid wr hR.but)
      have hdl : (l.drop K).length = L - K := by rw [List.length_drop, ← HL.out]
      obtain ⟨⟨k', e'⟩, hnx⟩ : ∃ y, Ck.nx s' (l.drop K) = y := ⟨_, rfl⟩
      rw [hnx] at cN0
      simp only [] at cN0
      have cN := cN0.mono (R' := fun x w' => (∃ u, x = .returned (.tuple #[u, .int .i64 e']) ∧ (e' = 0 → ∀ W, But g w W → Part W u ((l.drop K).take k'))) ∧ wr = w') (fun x w' ⟨⟨u, h1, h2⟩, h3⟩ => ⟨⟨u, h1, fun h W hb => h2 h W (hmid W hb)⟩, h3⟩)
      obtain ⟨P, hP⟩ : ∃ P, P = (l.drop K).take k' := ⟨_, rfl⟩
      rw [← hP] at cN
      have HP := Lib.hid hP
      have HNX := Lib.hid hnx
      have HGO := Lib.hid hgo
      have HDL := Lib.hid hdl
      clear cN0 hmid hP hnx hgo hdl hKl
      have hKi : (0 : Int) ≤ K := by omega
      have hKL : (K : Int) ≤ L := by omega
      go_upto_region 4 with fail
      go_cut [10, 11] (fun x10 x11 wx => (e' = 0 → ∀ W, But g w W → Part W x10 P) ∧ x11 = .int .i64 e' ∧ wr = wx)
      case first =>
        by_cases hcK : c = K
        · rw [if_pos hcK] at cN
          have hLK : L = K := by omega
          clear HDL HNX HGO HP HF0
          subst hLK
          subst hcK
          rw [Nat.sub_self] at cN
          go_wp2_with fail
          refine cN.mono ?_
          rintro e4 w4 ⟨⟨u4, rfl, hPt⟩, rfl⟩
          go_wp2_with fail
          go_meet
          case rel => exact ⟨hPt, rfl, rfl⟩
        · rw [if_neg hcK] at cN
          go_wp2_with fail
          refine cN.mono ?_
          rintro e4 w4 ⟨⟨u4, rfl, hPt⟩, rfl⟩
          go_wp2_with fail
          go_meet
          case rel => exact ⟨hPt, rfl, rfl⟩
      case rest =>
        obtain ⟨hPt, rfl, rfl⟩ := hcut
        clear cN
        by_cases he : e' = 0
        case neg =>
          have hlong := Ck.prog_long (s := s') (l := l.drop K) (by rw [HNX.out]; exact he)
          rw [HNX.out] at hlong
          obtain ⟨h12, hgo2⟩ := hlong
          have h12 : e' = 12 := h12
          have hge : (Ck.go s l).2.2.2 = 12 := by rw [HGO.out, hgo2]; rfl
          have q4 := hA.free 4
          have HS := Lib.hid (says_bad (by decide) hge (hR.but.put 4 (.int .i64 12)) ⟨a, n, t, k, hA.put 4 (.int .i64 12) rfl⟩)
          subst h12
          clear hPt hA hD hR hgo2 hge he ha4 ha1
          go_wp2_with fail
          go_region
          go_wp2_with fail
          refine ret_four rfl rfl ?_
          exact HS.out.later (Below.refl _ _).drew
        case pos =>
          subst he
          by_cases hk0 : k' = 0
          · have h00 := hPt rfl wr hR.but
            obtain ⟨_, ao, hx⟩ := h00
            have hPl : P.length = 0 := by rw [HP.out, hk0]; rfl
            rw [hPl] at hx
            subst hx
            have hstop := Ck.prog_stop hD.1 (by rw [HNX.out, hk0])
            have hgo2 : Ck.go s l = (acc, K, s', 0) := by rw [HGO.out, hstop]; unfold Ck.sh; simp
            have HS := Lib.hid (says_good hgo2 hR hD)
            clear hPt hA hD hR hgo2 hstop hPl hk0 ha4 ha1
            go_wp2_with fail
            go_region
            go_wp2_with fail
            refine ret_four rfl rfl ?_
            exact HS.out.later (Below.refl _ _).drew
          · have hkp : 0 < k' := Nat.pos_of_ne_zero hk0
            have hkl : k' ≤ (l.drop K).length := by
              have := Ck.nx_le (s := s') (l := l.drop K) (by rw [HNX.out])
              rw [HNX.out] at this; exact this
            have hPl : P.length = k' := by rw [HP.out, List.length_take]; omega
            have hPart := hPt rfl
            clear hPt
            obtain ⟨_, ao, hx⟩ := hPart wr hR.but
            rw [hPl] at hx
            subst hx
            have HK0 : Hid (0 < k') := Lib.hid hkp
            have HKK : Hid (K + k' ≤ L) := Lib.hid (by rw [HDL.out] at hkl; omega)
            have HP0 : Hid (P ≠ []) := Lib.hid (by intro h; rw [h] at hPl; simp at hPl; omega)
            have HDUE : Hid (Due s' P) := Lib.hid (by rw [HP.out]; exact due_of HNX.out hkp)
            have hgood := hD.1
            have HSTEP : Hid (∀ W, Dst W g (Ck.tk s' P).1 0 → Fed s l (acc ++ Ck.said s' P) (K + k') (W.setCell ⟨g, 4, none⟩ (.int .i64 (Ck.tk s' P).2)) g) := Lib.hid (fun W hd => fed_step HGO.out hacc hgood HNX.out hkp HP.out hPl hd)
            have hkz : ((k' : Int) == 0) = false := beq_eq_false_iff_ne.2 (by omega)
            have hkz2 : ¬ (k' : Int) = 0 := by omega
            have hki : (k' : Int) ≤ 10000000 := by rw [HDL.out] at hkl; have := HLB.out; have := HL.out; omega
            have hKi2 : (K : Int) ≤ 10000000 := by have := HLB.out; have := HL.out; omega
            by_cases hdat : ∃ t n, s' = .data t n
            · have ha := ha1.2 hdat
              subst ha
              have HSD : Hid (Ck.said s' P = P) := Lib.hid (by obtain ⟨t, n, rfl⟩ := hdat; rfl)
              have hlenA : acc.length + P.length ≤ 1000000000 := by rw [hPl]; have := HKK.out; have := HLB.out; have := HL.out; omega
              have hPc := hPart wr hR.but
              clear hA hgood hPl hkl hkp hk0 ha4 ha1 hdat hov
              go_wp2_with (at_builtin; refine appRowB hR hgw hPc.1 hPc.nil hlenA rfl (.tmp 46) (.tmp 47) rfl rfl rfl ?_; intro v2 w2 hR2 hg2)
              have hD2 := hD.same hg2
              refine (take_w g s' (.slice ao k' k') P w2 HP0.out HDUE.out hD2 (hPart w2 hR2.but) (HM.out w2 hR2.but)).mono ?_
              rintro e6 w3 ⟨rfl, hB3, hD3⟩
              rw [HSD.out] at HSTEP
              have hR3 := hR2.step hgw hB3
              obtain ⟨a3, n3, t3, j3, hA3, _, _⟩ := hD3.cells
              obtain ⟨d0, d1, d2, d3, d4⟩ := hA3.cells
              have q4 := hA3.free 4
              have hF3 := HSTEP.out w3 hD3
              have hR4 := hR3.step hgw ((But.refl g w3).put 4 (.int .i64 (Ck.tk s' P).2))
              clear hA3 hD3 hB3 hR3
              generalize (Ck.tk s' P).2 = er at *
              go_wp2_with fail
              go_roundw
              case rel => exact ⟨_, K + k', by go_num, HKK.out, hR4, hF3⟩
              case measure => have h1 := HKK.out; have h2 := HK0.out; simp [intOf]; omega
            · have hna : (a == 1) = false := beq_eq_false_iff_ne.2 (fun h => hdat (ha1.1 h))
              have hnb : ¬ a = 1 := fun h => hdat (ha1.1 h)
              have HSD : Hid (Ck.said s' P = []) := Lib.hid (by
                cases s' with
                | data t n => exact absurd ⟨t, n, rfl⟩ hdat
                | size t => rfl
                | tail t => rfl
                | trail j => rfl
                | over => rfl)
              rw [HSD.out, List.append_nil] at HSTEP
              clear hA hgood hPl hkl hkp hk0 ha4 ha1 hdat hov
              go_wp2_with fail
              refine (take_w g s' (.slice ao k' k') P wr HP0.out HDUE.out hD (hPart wr hR.but) (HM.out wr hR.but)).mono ?_
              rintro e6 w3 ⟨rfl, hB3, hD3⟩
              have hR3 := hR.step hgw hB3
              obtain ⟨a3, n3, t3, j3, hA3, _, _⟩ := hD3.cells
              obtain ⟨d0, d1, d2, d3, d4⟩ := hA3.cells
              have q4 := hA3.free 4
              have hF3 := HSTEP.out w3 hD3
              have hR4 := hR3.step hgw ((But.refl g w3).put 4 (.int .i64 (Ck.tk s' P).2))
              clear hA3 hD3 hB3 hR3
              generalize (Ck.tk s' P).2 = er at *
              go_wp2_with fail
              go_roundw
              case rel => exact ⟨_, K + k', by go_num, HKK.out, hR4, hF3⟩
              case measure => have h1 := HKK.out; have h2 := HK0.out; simp [intOf]; omega
set_option maxHeartbeats 6400000 in
set_option maxRecDepth 100000 in
theorem feed_none (g : Nat) (s : Ck.S) (c : Nat) (w : World) (hc : c ≤ 9223372036854775807) (hd : Dst w g s 0) :
    Calls Tryz.prog 95 #[.pointer (some ⟨g, 0, none⟩), .slice none 0 c] w fun x w' => Says s [] w g x w' := by
  have hnx := Ck.nx_nil hd.1
  have HS := Lib.hid (says_good (w := w) (Ck.prog_stop hd.1 hnx) (RowB.nil w g) hd)
  obtain ⟨a, n, t, k, hA, ha4, _⟩ := hd.cells
  obtain ⟨c0, c1, c2, c3, c4⟩ := hA.cells
  have hov := over_four ha4
  have cN0 := next_w g s (.slice none 0 c) [] w (Nat.zero_le _) hd ⟨none, c, rfl, Nat.zero_le _, hc, .inl rfl⟩
  rw [hnx] at cN0
  have cN : Calls Tryz.prog 113 #[.pointer (some ⟨g, 0, none⟩), .slice none 0 c] w fun x w' => (∃ ao : Option Addr, x = .returned (.tuple #[.slice ao 0 0, .int .i64 0])) ∧ w = w' := cN0.mono (fun x w' ⟨⟨u, h1, h2⟩, h3⟩ => by
    obtain ⟨_, ao, hu⟩ := h2 rfl w ⟨none, c, rfl, Nat.zero_le _, hc, .inl rfl⟩
    exact ⟨⟨ao, by rw [h1, hu]; rfl⟩, h3⟩)
  clear cN0 hnx ha4 hA hd
  go_enter Tryz.func95, Tryz.ntmps95
  go_wp2_with fail
  go_loopw [8, 9] (fun x8 x9 wr => x8 = .slice none 0 0 ∧ x9 = .int .i64 0 ∧ w = wr) (fun _ _ _ => 0)
  case atStart => exact ⟨rfl, rfl, rfl⟩
  case round =>
    obtain ⟨rfl, rfl, rfl⟩ := hrel
    go_wp2_with fail
    refine cN.mono ?_
    rintro e4 w4 ⟨⟨ao, rfl⟩, rfl⟩
    go_wp2_with fail
    go_region
    go_wp2_with fail
    refine ret_four rfl rfl ?_
    exact HS.out.later (Below.refl _ _).drew
set_option maxHeartbeats 6400000 in
set_option maxRecDepth 100000 in
/-- An error stays. -/
theorem feed_bad (g : Nat) (er : Int) (v : Value) (w : World) (hd : Dec w g (.inr er)) :
    Calls Tryz.prog 95 #[.pointer (some ⟨g, 0, none⟩), v] w fun x w' => x = .returned (.tuple #[.slice none 0 0, .int .i64 0, .bool false, .int .i64 er]) ∧ But g w w' ∧ Dec w' g (.inr er) := by
  have HD : Hid (∀ W, Below w.heap.size w W → Dec W g (.inr er)) := Lib.hid (fun W hb => hd.same (hb.block g hd.lt))
  obtain ⟨her, a, n, t, k, hA⟩ := hd
  obtain ⟨c0, c1, c2, c3, c4⟩ := hA.cells
  have heb : (er == 0) = false := beq_eq_false_iff_ne.2 her
  clear hA her
  go_enter Tryz.func95, Tryz.ntmps95
  go_wp2_with fail
  go_loopw [8, 9] (fun x8 x9 wr => x8 = .slice none 0 0 ∧ x9 = .int .i64 0 ∧ w = wr) (fun _ _ _ => 0)
  case atStart => exact ⟨rfl, rfl, rfl⟩
  case round =>
    obtain ⟨rfl, rfl, rfl⟩ := hrel
    go_wp2_with fail
    go_region
    go_wp2_with fail
    refine ret_four rfl rfl ?_
    exact ⟨rfl, But.of (Below.refl _ _).drew, HD.out _ (Below.refl _ _).drew⟩
/-- Octets are fed. -/
theorem feed_w (g : Nat) (s : Ck.S) (v : Value) (l : List UInt8) (w : World) (hl : l.length ≤ 10000000) (h : BIn w v l) (hd : Dst w g s 0) (hm : MaxOk w) (hgne : 1 ≠ g) :
    Calls Tryz.prog 95 #[.pointer (some ⟨g, 0, none⟩), v] w fun x w' => Says s l w g x w' := by
  have h0 := h
  obtain ⟨ao, c, rfl, _, hc9, hg⟩ := h0
  cases ao with
  | some ad => exact feed_some g s ad c l w hl h hd hm hgne
  | none =>
    have hl0 : l = [] := by
      rcases hg with h | ⟨b, o, h, _⟩
      · exact h
      · cases h
    subst hl0
    exact feed_none g s c w hc9 hd
end Go.Proofs.YtlbjjeonchcgbaaGreatDoor

namespace Go.Proofs.YtlbjjeonchcgbaaGreatDoor
open Go.RowKit

set_option maxHeartbeats 6400000 in
set_option maxRecDepth 100000 in
theorem new_w (w : World) :
    Calls Tryz.prog 112 #[] w fun e w' => e = .returned (.pointer (some ⟨w.heap.size, 0, none⟩)) ∧ w.heap.size < w'.heap.size ∧ Dst w' w.heap.size (.size 0) 0 ∧ Below w.heap.size w w' := by
  go_enter Tryz.func112, Tryz.ntmps112
  go_wp2_with fail
  go_ret
  exact ⟨rfl, by simp, ⟨Nat.zero_le _, heap_alloc_new w _⟩, (Below.refl _ w).alloc (Nat.le_refl _) _⟩
theorem maxOk_lt {w : World} (h : MaxOk w) : 1 < w.heap.size := by
  obtain ⟨m, h⟩ := h
  exact World.block_lt_of_cell? w _ h
theorem fed_told (l : List UInt8) : Ck.fed (.size 0) l = Ck.told l := rfl
theorem NewAt.mono {B B' : Nat} {u : Value} (h : NewAt B' u) (hb : B ≤ B') : NewAt B u := fun ad n c e => Nat.le_trans hb (h ad n c e)
set_option maxHeartbeats 3200000 in
set_option maxRecDepth 100000 in
theorem encode_b (v : Value) (ls : List (List UInt8)) (w : World) (hE : (Ck.encode ls).length ≤ 10000000) (h : BsIn w v ls) (hT : Tabs w) :
    Calls Tryz.prog 37 #[v] w fun e w' => (∃ u, e = .returned u ∧ Buf w w' u (Ck.encode ls)) ∧ Below w.heap.size w w' := by
  obtain ⟨ao, cap, rfl, hlc, hc9, hg⟩ := h
  obtain ⟨L, hL⟩ : ∃ L, L = ls.length := ⟨_, rfl⟩
  have HL := Lib.hid hL
  have HG := Lib.hid hg
  rw [← hL] at hlc ⊢
  have HT := Lib.hid (fun (W : World) (hb : Below w.heap.size w W) => hT.later hb)
  have HPL := Lib.hid (pre_len ls)
  clear hL hg hT
  go_enter Tryz.func37, Tryz.ntmps37
  go_wp2_with fail
  go_loopw [3, 8] (fun x3 x8 wr => ∃ k : Nat, k ≤ L ∧ x8 = .int .i64 k ∧ Buf w wr x3 ((ls.take k).flatMap Ck.chunkOf)) (fun _ x8 _ => L - (intOf x8).toNat)
  case atStart => exact ⟨0, Nat.zero_le _, rfl, Buf.nil w⟩
  case round =>
    obtain ⟨k, hk, rfl, hB⟩ := hrel
    have hk0 : (0 : Int) ≤ k := by omega
    by_cases hlt : k < L
    · have hki : (k : Int) < L := by omega
      obtain ⟨b, o, hao, hbl, hcell⟩ := HG.out.resolve_left (fun x => by have := HL.out; rw [x] at this; simp at this; omega)
      subst hao
      have k0 : k < ls.length := by rw [← HL.out]; exact hlt
      obtain ⟨u, hu, hbin, hnil⟩ := hcell k k0
      have HS := Lib.hid (pre_snoc ls k k0)
      have hP := HPL.out (k + 1)
      rw [HS.out] at hP
      have hCL := chunk_len ls[k]
      clear hcell
      generalize ls[k] = p at *
      have hbin0 := hbin
      obtain ⟨a2, c2, rfl, _, _, _⟩ := hbin
      have c0 := (hB.2.cell (p := ⟨b, o + k, none⟩) hbl).trans hu
      obtain ⟨pl, hpl⟩ : ∃ pl, pl = p.length := ⟨_, rfl⟩
      have HPLE := Lib.hid hpl
      rw [← hpl] at hnil c0 hu
      by_cases hp : p = []
      · have hpl0 : pl = 0 := by rw [hpl, hp]; rfl
        have HS2 : Hid ((ls.take (k + 1)).flatMap Ck.chunkOf = (ls.take k).flatMap Ck.chunkOf) := Lib.hid (by rw [HS.out, hp]; simp [Ck.chunkOf])
        subst hpl0
        clear hP hCL hnil hu HPLE hpl
        go_wp2_with fail
        go_round
        case rel => exact ⟨k + 1, by omega, by go_num, by rw [HS2.out]; exact hB⟩
        case measure => simp [intOf]; omega
      · have hp0 : 0 < pl := by rw [hpl]; exact List.length_pos_iff.2 hp
        have hpb : ((pl : Int) == 0) = false := beq_eq_false_iff_ne.2 (by omega)
        have hbinW := Lib.hid (fun (W : World) (hb : Below w.heap.size w W) => (show BIn w (.slice a2 pl c2) p by rw [hpl]; exact hbin0).later hb)
        rw [List.length_append, hCL hp, ← hpl] at hP
        have cP := fun (W : World) (hb : Below w.heap.size w W) => Print_is (pl : Int) 16 _ W (by omega) (HT.out W hb) rfl
        have hDl : (str (Oct.print (pl : Int) 16)).size = (Oct.print (pl : Int) 16).length := str_size _
        have hDd : (str (Oct.print (pl : Int) 16)).data.toList = Oct.print (pl : Int) 16 := str_list _
        have HS2 : Hid ((ls.take (k + 1)).flatMap Ck.chunkOf = (ls.take k).flatMap Ck.chunkOf ++ (str (Oct.print (pl : Int) 16)).data.toList ++ [13, 10] ++ p ++ [13, 10]) := Lib.hid (by
          rw [HS.out, hDd, hpl]; unfold Ck.chunkOf; rw [if_neg hp]; simp only [List.append_assoc])
        generalize (ls.take k).flatMap Ck.chunkOf = pre at *
        generalize hDD : str (Oct.print (pl : Int) 16) = D at *
        have hDc : (D ++ ⟨#[13, 10]⟩ : ByteArray).data.toList = D.data.toList ++ [13, 10] := app_two _ _
        have hDs : (D ++ ⟨#[13, 10]⟩ : ByteArray).size = D.size + 2 := by rw [← Oct.length_size, hDc, List.length_append, Oct.length_size]; rfl
        have hl1 : pre.length + (D ++ ⟨#[13, 10]⟩ : ByteArray).size ≤ 100000000000 := by omega
        have hl3 : (pre ++ (D ++ ⟨#[13, 10]⟩ : ByteArray).data.toList).length + p.length ≤ 1000000000 := by rw [hDc, hDd, ← hpl]; simp; omega
        have hl4 : (pre ++ (D ++ ⟨#[13, 10]⟩ : ByteArray).data.toList ++ p).length + (⟨#[13, 10]⟩ : ByteArray).size ≤ 100000000000 := by rw [hDc, hDd]; show _ + 2 ≤ _; simp; omega
        have hDz : (D.size : Int) ≤ 10000000 := by omega
        have HS3 : Hid ((ls.take (k + 1)).flatMap Ck.chunkOf = pre ++ (D ++ ⟨#[13, 10]⟩ : ByteArray).data.toList ++ p ++ (⟨#[13, 10]⟩ : ByteArray).data.toList) := Lib.hid (by
          rw [HS2.out, hDc]; simp only [List.append_assoc])
        clear hP hCL HS hDl hDd hDD HPLE hpl hDc hDs HS2
        have cP2 := cP wr hB.2
        clear cP
        go_upto_region 7 with (first
          | (go_at_call 65; refine cP2.mono ?_; rintro e W1 ⟨rfl, hb1⟩; have hB1 := hB.after hb1)
          | (at_builtin; refine appStr hB1 (D ++ ⟨#[13, 10]⟩ : ByteArray) hl1 rfl (.tmp 15) (.tmp 19) rfl rfl rfl ?_; intro v2 W2 hB2))
        clear c0 hB hB1 hb1 cP2
        go_upto_region 8 with (at_builtin; refine appBs hB2 (hbinW.out W2 hB2.2) hnil hl3 rfl (.tmp 21) (.tmp 22) rfl rfl rfl ?_; intro v4 W4 hB4 _)
        clear hB2
        go_wp2_with (at_builtin; refine appStr hB4 ⟨#[13, 10]⟩ hl4 rfl (.tmp 24) (.const (.string ⟨#[13, 10]⟩)) rfl rfl rfl ?_; intro v5 W5 hB5)
        go_round
        case rel => exact ⟨k + 1, by omega, by go_num, by rw [HS3.out]; exact hB5⟩
        case measure => simp [intOf]; omega
    · have hki : ¬ (k : Int) < L := by omega
      have hkL : ls.take k = ls := List.take_of_length_le (by rw [← HL.out]; omega)
      rw [hkL] at hB
      have hlE : (ls.flatMap Ck.chunkOf).length + (⟨#[48, 13, 10, 13, 10]⟩ : ByteArray).size ≤ 100000000000 := by
        have : (Ck.encode ls).length = (ls.flatMap Ck.chunkOf).length + 5 := by unfold Ck.encode; rw [List.length_append]; rfl
        show _ + 5 ≤ _; omega
      clear hkL
      go_wp2_with (at_builtin; refine appStr hB ⟨#[48, 13, 10, 13, 10]⟩ hlE rfl (.tmp 27) (.const (.string ⟨#[48, 13, 10, 13, 10]⟩)) rfl rfl rfl ?_; intro v5 W5 hB5)
      go_ret
      exact ⟨⟨_, rfl, hB5⟩, hB5.2⟩
end Go.Proofs.YtlbjjeonchcgbaaGreatDoor
