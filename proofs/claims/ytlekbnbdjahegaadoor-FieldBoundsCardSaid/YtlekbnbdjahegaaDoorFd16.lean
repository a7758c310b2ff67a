/- Package field: octets put together; the document's examples. -/
import Derived.Test.YtlekbnbdjahegaaDoorFd15
import Derived.Test.YtlekbnbdjahegaaDoorFd11
import Derived.Test.YtlekbnbdjahegaaDoorFdMathG
namespace Go.Proofs.YtlekbnbdjahegaaDoor
open Go.RowKit

/-- 'append(b, c..)'. -/
theorem appBs {ops : Array Oper} {rest : List Oper} {o : Oper} {a : Act} {Q : Exit → Act → World → Prop} {W w : World} {v u : Value} {l m : List UInt8} (h : Buf W w v l) (hu : BIn w u m) (hnil : NilOk u) (hlen : l.length + m.length ≤ 1000000000)
    (hgd : o.guard = none) (s x : Operand) (ho : o.op = .call { callee := .builtin .append, args := #[s, x], argTypes := #[22, 22] })
    (hs : a.eval s = v) (hx : a.eval x = u)
    (hK : ∀ v' w', Buf W w' v' (l ++ m) → (v ≠ .slice none 0 0 → v' ≠ .slice none 0 0) → wpList Tryd.prog ops Q rest (a.put o.dst v') w') : wpList Tryd.prog ops Q (o :: rest) a w := by
  obtain ⟨i0, hi, hz0, hz1, hz2⟩ := info_parts bytes_info
  obtain ⟨ao, cap, rfl, hlc, _, hg⟩ := hu
  cases ao with
  | none =>
    have h0 : m = [] := by
      rcases hg with h | ⟨b, o, h, _⟩
      · exact h
      · cases h
    subst h0
    obtain rfl : cap = 0 := hnil cap rfl
    refine wpList_append_own_none hgd s x _ ho W.heap.size 5 i0 1 Tryd.underlying22 hi v l.length (Lib.byteCells l) hs h.1 hx ?_
    have := hK v w
    rw [List.append_nil] at this
    exact this h id
  | some ad =>
    refine wpList_append_own _ hgd s x _ ho W.heap.size 5 i0 _ 1 1 Tryd.underlying22 hi hz0 hz1 hz2 rfl (by decide) v l.length (Lib.byteCells l) hs h.1 ad m.length cap (Lib.byteCells m) hx (by rw [Lib.byteCells_length]; omega) ?_ ?_ (by unfold maxLen; omega) (by omega) h.2.size (fun v' w' h1 h2 h3 => ?_)
    · intro j c hj
      have hjl : j < m.length := by
        have := (List.getElem?_eq_some_iff.1 hj).1
        rw [Lib.byteCells_length] at this; exact this
      rcases hg with h | ⟨b, o, h, hb, hc⟩
      · subst h; simp at hjl
      · cases h
        rw [Addr.add_lit, hc j hjl]
        rw [← hj]; simp [Lib.byteCells, hjl]
    · intro c hc
      unfold Lib.byteCells at hc
      obtain ⟨d, _, rfl⟩ := List.mem_map.1 hc
      rfl
    · refine hK v' w' ⟨?_, h.2.grown h2 h.2.size (fun k hk => (h.1.lt k hk).1)⟩ (fun hv hv' => hv (h3.1 hv').1)
      have e : Lib.byteCells (l ++ m) = Lib.byteCells l ++ Lib.byteCells m := by simp [Lib.byteCells]
      rw [e, List.length_append]; exact h1
/-- A row that is none nil: a block, and its octets. -/
theorem Buf.oc {W w : World} {v : Value} {l : List UInt8} (h : Buf W w v l) (hv : v ≠ .slice none 0 0) : ∃ g cap, v = .slice (some ⟨g, 0, none⟩) l.length cap ∧ l.length ≤ cap ∧ cap ≤ 9223372036854775807 ∧ Oc w g l := by
  rcases h.1.2 with ⟨h0, _⟩ | ⟨g, cap, cur, hv', hg, hh, h1, h2, h3, h4⟩
  · exact absurd h0 hv
  · refine ⟨g, cap, hv', h1, by unfold maxLen at h2; omega, lt_of_block hh, fun j hj => ?_⟩
    have h5 : cur.toList[j]? = some (.int .u8 (l[j].toNat : Int)) := by
      have h6 : (cur.toList.take (l.length * 1))[j]? = (Lib.byteCells l)[j]? := by rw [h4]
      rw [List.getElem?_take_of_lt (by omega)] at h6
      rw [h6]; simp [Lib.byteCells, hj]
    simp only [World.cell?, hh]
    simpa using h5
theorem Buf.bin {W w : World} {v : Value} {l : List UInt8} (h : Buf W w v l) (hv : v ≠ .slice none 0 0) : BIn w v l := by
  obtain ⟨g, cap, rfl, h1, h2, h3, h4⟩ := h.oc hv
  exact ⟨_, cap, rfl, h1, h2, .inr ⟨g, 0, rfl, h3, fun j hj => by rw [Nat.zero_add]; exact h4 j hj⟩⟩
theorem BIn.later {w w' : World} {v : Value} {l : List UInt8} (h : BIn w v l) (hb : Below w.heap.size w w') : BIn w' v l := by
  obtain ⟨ao, cap, hv, h1, h2, h⟩ := h
  refine ⟨ao, cap, hv, h1, h2, ?_⟩
  rcases h with h | ⟨b, o, h1, h2, h3⟩
  · exact .inl h
  · exact .inr ⟨b, o, h1, Nat.lt_of_lt_of_le h2 hb.size, fun j hj => by rw [hb.cell (p := ⟨b, o + j, none⟩) h2]; exact h3 j hj⟩
/-- '[]byte{}'. -/
theorem Buf.none_ (W w : World) (hb : Below W.heap.size W w) : Buf W (w.alloc (.cells #[] 5)) (.slice (some ⟨w.heap.size, 0, none⟩) 0 0) [] :=
  ⟨World.ownsRow_made w #[] 0 hb.size (by decide) rfl, hb.alloc hb.size _⟩
theorem FBuf.none_ (W w : World) (hb : Below W.heap.size W w) : FBuf W (w.alloc (.cells #[] 49)) (.slice (some ⟨w.heap.size, 0, none⟩) 0 0) [] :=
  ⟨World.ownsRow_made w #[] 0 hb.size (by decide) rfl, hb.alloc hb.size _⟩
theorem SBuf.none_ (W w : World) (hb : Below W.heap.size W w) : SBuf W (w.alloc (.cells #[] 9)) (.slice (some ⟨w.heap.size, 0, none⟩) 0 0) [] :=
  ⟨World.ownsRow_made w #[] 0 hb.size (by decide) rfl, hb.alloc hb.size _⟩

/-- A constant's octets, behind their conversion. -/
theorem octets_block (w : World) (C : Array Value) (l : List UInt8) (hC : C.toList = Lib.byteCells l) : ∃ W1, (convert 22 22 (.slice (some ⟨w.heap.size, 0, none⟩) l.length l.length)).run Tryd.prog (w.alloc (.cells C 5)) = .ok (.slice (some ⟨w.heap.size, 0, none⟩) l.length l.length) W1 ∧
    Oc W1 w.heap.size l ∧ Below w.heap.size w W1 := by
  refine ⟨_, Lib.run_convert_bytes_const w _ _ C l.length l.length Tryd.underlying22 Tryd.underlying5, ⟨by simp, fun j hj => ?_⟩, (Below.refl _ w).alloc (Nat.le_refl _) _⟩
  rw [World.cell?_alloc_mark, ← Array.getElem?_toList, hC]
  simp [Lib.byteCells, hj]
theorem fin_two (w : World) (a b c d : List UInt8) : FIn (w.alloc (.cells #[.string (str a), .string (str b), .string (str c), .string (str d)] 49)) (.slice (some ⟨w.heap.size, 0, none⟩) 2 2) [(a, b), (c, d)] := by
  refine ⟨_, 2, rfl, .inr ⟨w.heap.size, 0, rfl, by simp, fun j hj => ?_⟩⟩
  match j, hj with
  | 0, _ => exact ⟨by rw [World.cell?_alloc_at _ _ _ _ rfl]; rfl, by rw [World.cell?_alloc_at _ _ _ _ rfl]; rfl⟩
  | 1, _ => exact ⟨by rw [World.cell?_alloc_at _ _ _ _ rfl]; rfl, by rw [World.cell?_alloc_at _ _ _ _ rfl]; rfl⟩
theorem fin_one (w : World) (a b : List UInt8) : FIn (w.alloc (.cells #[.string (str a), .string (str b)] 49)) (.slice (some ⟨w.heap.size, 0, none⟩) 1 1) [(a, b)] := by
  refine ⟨_, 1, rfl, .inr ⟨w.heap.size, 0, rfl, by simp, fun j hj => ?_⟩⟩
  match j, hj with
  | 0, _ => exact ⟨by rw [World.cell?_alloc_at _ _ _ _ rfl]; rfl, by rw [World.cell?_alloc_at _ _ _ _ rfl]; rfl⟩
theorem nil_ok (g n c : Nat) : NilOk (.slice (some ⟨g, 0, none⟩) n c) := fun _ h => by injection h with h; cases h

def exA : List UInt8 := [65, 58, 32, 98, 13, 10, 67, 58, 13, 10, 13, 10, 120]
theorem ex_parse : Fld.parse exA = ([([65], [98]), ([67], [])], 12, 0) := by decide +kernel
theorem ex_with : Fld.withAll [([65], [49]), ([66], [50])] [([97], [51])] = [([97], [51]), ([66], [50])] := by decide +kernel

set_option maxHeartbeats 1600000 in
set_option maxRecDepth 100000 in
theorem awake_w (w : World) (hm : MaxOk w) :
    Calls Tryd.prog 8 #[] w fun e w' => e = .returned (.bool true) ∧ Below w.heap.size w w' := by
  obtain ⟨W1, hcv, hO, hb1⟩ := octets_block w #[.int .u8 65, .int .u8 58, .int .u8 32, .int .u8 98, .int .u8 13, .int .u8 10, .int .u8 67, .int .u8 58, .int .u8 13, .int .u8 10, .int .u8 13, .int .u8 10, .int .u8 120] exA rfl
  have cP := Parse_w w.heap.size exA.length exA W1 (by decide) (Nat.le_refl _) (by decide) hO (hm.later hb1)
  rw [ex_parse] at cP
  have hcv' : (convert 22 22 (.slice (some ⟨w.heap.size, 0, none⟩) 13 13)).run Tryd.prog (w.alloc (.cells #[.int .u8 65, .int .u8 58, .int .u8 32, .int .u8 98, .int .u8 13, .int .u8 10, .int .u8 67, .int .u8 58, .int .u8 13, .int .u8 10, .int .u8 13, .int .u8 10, .int .u8 120] 5)) = .ok (.slice (some ⟨w.heap.size, 0, none⟩) 13 13) W1 := hcv
  have cP' : Calls Tryd.prog 9 #[.slice (some ⟨w.heap.size, 0, none⟩) 13 13] W1 fun e w' => ∃ v, e = .returned (.tuple #[v, .int .i64 12, .int .i64 0]) ∧ FBuf W1 w' v [([65], [98]), ([67], [])] := cP
  clear hcv cP hm hO
  go_enter Tryd.func8, Tryd.ntmps8
  go_wp2_with fail
  refine cP'.mono ?_
  rintro e w2 ⟨v, rfl, hB⟩
  have fA : FIn ((w2.alloc (.cells #[.string ⟨#[65]⟩, .string ⟨#[49]⟩, .string ⟨#[66]⟩, .string ⟨#[50]⟩] 49)).alloc (.cells #[.string ⟨#[97]⟩, .string ⟨#[51]⟩] 49)) (.slice (some ⟨w2.heap.size, 0, none⟩) 2 2) [([65], [49]), ([66], [50])] :=
    (fin_two w2 [65] [49] [66] [50]).later ((Below.refl _ _).alloc (Nat.le_refl _) _)
  have fB : FIn ((w2.alloc (.cells #[.string ⟨#[65]⟩, .string ⟨#[49]⟩, .string ⟨#[66]⟩, .string ⟨#[50]⟩] 49)).alloc (.cells #[.string ⟨#[97]⟩, .string ⟨#[51]⟩] 49)) (.slice (some ⟨w2.heap.size + 1, 0, none⟩) 1 1) [([97], [51])] := by
    have := fin_one (w2.alloc (.cells #[.string ⟨#[65]⟩, .string ⟨#[49]⟩, .string ⟨#[66]⟩, .string ⟨#[50]⟩] 49)) [97] [51]
    rw [show (w2.alloc (.cells #[.string ⟨#[65]⟩, .string ⟨#[49]⟩, .string ⟨#[66]⟩, .string ⟨#[50]⟩] 49)).heap.size = w2.heap.size + 1 by simp] at this
    exact this
  have hb2 : Below w2.heap.size w2 ((w2.alloc (.cells #[.string ⟨#[65]⟩, .string ⟨#[49]⟩, .string ⟨#[66]⟩, .string ⟨#[50]⟩] 49)).alloc (.cells #[.string ⟨#[97]⟩, .string ⟨#[51]⟩] 49)) := ((Below.refl _ w2).alloc (Nat.le_refl _) _).alloc (by simp) _
  have cW := With_w _ _ _ _ _ fA fB (nil_ok _ _ _) (nil_ok _ _ _) ⟨by decide, by decide⟩ ⟨by decide, by decide⟩
  rw [ex_with] at cW
  clear fA fB
  go_wp2_with fail
  refine cW.mono ?_
  rintro e w3 ⟨u, rfl, hU⟩
  have hb3 : Below w2.heap.size w2 w3 := hb2.trans (hU.2.mono hb2.size)
  have hbw : Below w.heap.size w w3 := hb1.trans ((hB.2.trans (hb3.mono hB.2.size)).mono hb1.size)
  have f1 := (hB.after hb3).fin
  have f2 := hU.fin
  clear cW hb2 hb3 hU hB hb1 hcv' cP'
  have s1 := SameF_w v (.slice (some ⟨w3.heap.size, 0, none⟩) 2 2) _ _ _ (f1.later ((Below.refl _ w3).alloc (Nat.le_refl _) _)) (fin_two w3 [65] [98] [67] []) (by decide)
  rw [sameF_self] at s1
  go_wp2_with fail
  refine s1.mono ?_
  rintro e w4 ⟨rfl, hb4⟩
  have hb5 : Below w3.heap.size w3 w4 := ((Below.refl _ w3).alloc (Nat.le_refl _) _).trans (hb4.mono (by simp))
  have s2 := SameF_w u (.slice (some ⟨w4.heap.size, 0, none⟩) 2 2) _ _ _ ((f2.later hb5).later ((Below.refl _ w4).alloc (Nat.le_refl _) _)) (fin_two w4 [97] [51] [66] [50]) (by decide)
  rw [sameF_self] at s2
  go_wp2_with fail
  refine s2.mono ?_
  rintro e w5 ⟨rfl, hb6⟩
  have hb7 : Below w4.heap.size w4 w5 := ((Below.refl _ w4).alloc (Nat.le_refl _) _).trans (hb6.mono (by simp))
  clear s1 s2 f1 f2
  go_wp2_with fail
  go_ret
  exact ⟨rfl, hbw.trans ((hb5.trans (hb7.mono hb5.size)).mono hbw.size)⟩
end Go.Proofs.YtlekbnbdjahegaaDoor
