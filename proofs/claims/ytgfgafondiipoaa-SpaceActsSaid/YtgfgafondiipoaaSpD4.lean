/- The document's map in memory: Runs. -/
import Derived.Test.YtgfgafondiipoaaSpD3
import Derived.Test.YtgfgafondiipoaaSpR
namespace Go.Proofs.Ytgfgafondiipoaa
open Go.RowKit

theorem ecs_set : ∀ (es : List Sp.Ext) (j : Nat) (x : Sp.Ext), ((ecs es).set (j * 2) (.int .i64 x.1)).set (j * 2 + 1) (.int .i64 x.2) = ecs (es.set j x)
  | [], _, _ => rfl
  | e :: t, 0, x => rfl
  | e :: t, j + 1, x => by
    have := ecs_set t j x
    rw [show (j + 1) * 2 = j * 2 + 2 from by omega]
    show (ecells e ++ ((ecs t).set (j * 2) _).set (j * 2 + 1) _) = ecells e ++ ecs (t.set j x)
    rw [this]
theorem ERow.put2 {B : Nat} {F : Nat → Prop} {w : World} {g n c : Nat} {es : List Sp.Ext} (h : ERow B F w (.slice (some ⟨g, 0, none⟩) n c) es) (j : Nat) (x : Sp.Ext) :
    ERow B F ((w.setCell ⟨g, j * 2, none⟩ (.int .i64 x.1)).setCell ⟨g, j * 2 + 1, none⟩ (.int .i64 x.2)) (.slice (some ⟨g, 0, none⟩) n c) (es.set j x) := by
  refine ⟨?_, h.own⟩
  have h0 := h.row.1
  rcases h.row.2 with ⟨hv, _⟩ | ⟨g2, cap, cur, hv, hb, hh, h1, h2, h3, h4⟩
  · cases hv
  · cases hv
    refine ⟨by rw [ecs_length, List.length_set], .inr ⟨g, c, _, by rw [List.length_set], hb, heap_set (heap_set hh), by rw [List.length_set]; exact h1, h2, by simpa using h3, ?_⟩⟩
    rw [List.length_set, Array.toList_setIfInBounds, Array.toList_setIfInBounds, List.take_set, List.take_set, h4]
    exact ecs_set es j x
theorem ERow.cellf {B : Nat} {F : Nat → Prop} {w : World} {g n c : Nat} {es : List Sp.Ext} (h : ERow B F w (.slice (some ⟨g, 0, none⟩) n c) es) (j : Nat) : w.frozen? ⟨g, j, none⟩ = false := by
  rcases h.row.2 with ⟨hv, _⟩ | ⟨g2, cap, cur, hv, hb, hh, _⟩
  · cases hv
  · cases hv
    simp only [World.frozen?, hh]; simp
theorem runs_le (m : Sp.M) (k : Nat) : (Sp.runs k m).length ≤ m.length := by
  have h1 : ∀ l : List Sp.Run, (∀ e ∈ l, 1 ≤ e.2) → l.length ≤ Sp.size l := by
    intro l
    induction l with
    | nil => intro _; exact Nat.le_refl _
    | cons e t ih =>
      intro h
      have h2 := ih (fun x hx => h x (List.mem_cons_of_mem _ hx))
      have h3 := h e List.mem_cons_self
      have h4 : Sp.size (e :: t) = e.2 + Sp.size t := by simp [Sp.size]
      rw [List.length_cons]; omega
  have h2 := h1 (Sp.runs k m) (fun e he => (Sp.runs_ge m k e he).2.1)
  rw [Sp.runs_size] at h2
  exact Nat.le_trans h2 List.countP_le_length
theorem tk_one (m : Sp.M) (k : Nat) (hk : k < m.length) : m.take (k + 1) = m.take k ++ [m[k]] := by rw [List.take_add_one, List.getElem?_eq_getElem hk]; rfl
set_option maxHeartbeats 6400000 in
set_option maxRecDepth 100000 in
theorem rRuns_w (w : World) (q bs bw : Nat) (m : Sp.M) (h : RD w q bs bw m) :
    Calls Try.prog 28 #[.pointer (some ⟨q, 0, none⟩)] w fun e w' => ∃ v, e = .returned v ∧ Below w.heap.size w w' ∧ ERow w.heap.size (RF q bs bw) w' v ((Sp.runs 0 m).map Sp.ie) := by
  have H := Lib.hid h
  have hlen := h.len
  obtain ⟨n, hn⟩ : ∃ n, n = m.length := ⟨_, rfl⟩
  have HN := Lib.hid hn
  rw [← hn] at hlen
  clear h hn
  go_enter Try.func28, Try.ntmps28
  go_wp2_with fail
  go_loopw [3, 4] (fun vo vi wr => ∃ k : Nat, k ≤ n ∧ vi = .int .i64 k ∧ Hid (Below w.heap.size w wr) ∧ Hid (ERow w.heap.size (RF q bs bw) wr vo ((Sp.runs 0 (m.take k)).map Sp.ie))) (fun _ vi _ => n - (intOf vi).toNat)
  case atStart => exact ⟨0, Nat.zero_le _, rfl, Lib.hid (Below.refl _ _), Lib.hid (ERow.empty _ _ _)⟩
  case round =>
    obtain ⟨k, hk, rfl, HB, E⟩ := hrel
    by_cases hlt : k < n
    · have hki : (k : Int) < n := by omega
      have hkm : k < m.length := by rw [← HN.out]; exact hlt
      have HT := Lib.hid (tk_one m k hkm)
      obtain ⟨c, hc⟩ : ∃ c, c = m[k] := ⟨_, rfl⟩
      have HK : Hid (m[k]? = some c) := Lib.hid (by rw [hc]; exact List.getElem?_eq_getElem hkm)
      rw [← hc] at HT
      clear hc
      obtain ⟨s, b⟩ := c
      obtain ⟨i0, i1, i2, i3, i4, i5⟩ := (H.out.later HB.out).facts HN.out.symm hlt HK.out
      by_cases hs : s = 0
      · subst hs
        by_cases hk0 : k = 0
        · have hk0i : ¬ (0 : Int) < k := by omega
          have HL : Hid (∀ a x, m.take k = a ++ [x] → x.1 ≠ 0) := Lib.hid (fun a x e => by subst hk0; simp at e)
          clear hk0
          have HNW : Hid ((Sp.runs 0 (m.take (k + 1))).map Sp.ie = (Sp.runs 0 (m.take k)).map Sp.ie ++ [((k : Int), 1)]) := Lib.hid (by
            rw [HT.out, Sp.runs_snoc_new _ _ _ rfl HL.out, List.map_append, List.length_take, Nat.min_eq_left (by omega), Nat.zero_add]; rfl)
          have hlr := runs_le (m.take k) 0
          have hb5 : Below wr.heap.size wr (wr.alloc (.cells #[.int .i64 (k : Int), .int .i64 1] 35)) := (Below.refl _ wr).alloc (Nat.le_refl _) _
          have E5 := Lib.hid (E.out.later hb5)
          have hltw := (H.out.later HB.out).lt
          have X5 := Lib.hid (es_one (F := RF q bs bw) wr (k : Int) 1 hltw)
          have HLL : Hid (((Sp.runs 0 (m.take k)).map Sp.ie).length + [((k : Int), (1 : Int))].length ≤ 1000000) := Lib.hid (by rw [List.length_map]; rw [List.length_take] at hlr; simp; omega)
          have HBB := Lib.hid (bt5 HB.out hb5)
          have HSZ := Lib.hid (HBB.out.size)
          have HF5 := Lib.hid (fun (x : Nat) (hx : RF q bs bw x) => Nat.lt_of_lt_of_le (hltw x hx) hb5.size)
          generalize (Sp.runs 0 (m.take k)).map Sp.ie = es at *
          clear hb5 hlr hltw
          go_wp2_with (at_builtin; refine appEs E5.out X5.out rfl HLL.out HSZ.out HF5.out rfl _ _ rfl rfl rfl ?_; intro v9 w9 hE9 ht9)
          have hb9 := Lib.hid (ht9.below (fun x hx => (E5.out.own x hx).1) HBB.out HSZ.out)
          have HE9 := Lib.hid hE9
          clear hE9 ht9
          go_roundw
          case rel => exact ⟨k + 1, by omega, by go_num, hb9, Lib.hid (by rw [HNW.out]; exact HE9.out)⟩
          case measure => simp [intOf]; omega
        · have hk0i : (0 : Int) < k := by omega
          obtain ⟨p, hp⟩ : ∃ p, k = p + 1 := ⟨k - 1, by omega⟩
          have hpm : p < m.length := by omega
          have HP : Hid (m.take k = m.take p ++ [m[p]]) := Lib.hid (by rw [hp]; exact tk_one m p hpm)
          obtain ⟨x, hx⟩ : ∃ x, x = m[p] := ⟨_, rfl⟩
          have HX : Hid (m[p]? = some x) := Lib.hid (by rw [hx]; exact List.getElem?_eq_getElem hpm)
          rw [← hx] at HP
          clear hx
          obtain ⟨s', b'⟩ := x
          obtain ⟨-, -, j2, -, -, -⟩ := (H.out.later HB.out).facts HN.out.symm (by omega : p < n) HX.out
          obtain rfl : p = k - 1 := by omega
          by_cases hs' : s' = 0
          · subst hs'
            obtain ⟨out, e, n1, r1, r2⟩ := Sp.runs_snoc_on (m.take (k - 1)) 0 (0, b') (0, b) rfl rfl
            rw [← HP.out] at r1 r2
            rw [← HT.out] at r2
            have hge := Sp.runs_ge (m.take k) 0 (e, n1) (by rw [r1]; simp)
            have hlr := runs_le (m.take k) 0
            rw [List.length_take] at hge hlr
            rw [r1] at hlr
            simp only [List.length_append, List.length_singleton] at hge hlr
            obtain ⟨j, hj⟩ : ∃ j, j = out.length := ⟨_, rfl⟩
            have HE1 : Hid ((Sp.runs 0 (m.take k)).map Sp.ie = out.map Sp.ie ++ [((e : Int), (n1 : Int))]) := Lib.hid (by rw [r1, List.map_append]; rfl)
            have HE2 : Hid ((Sp.runs 0 (m.take (k + 1))).map Sp.ie = (out.map Sp.ie ++ [((e : Int), (n1 : Int))]).set j ((e : Int), (n1 : Int) + 1)) := Lib.hid (by
              rw [r2, List.map_append, List.set_append_right _ _ (by rw [List.length_map]; omega), List.length_map, hj, Nat.sub_self]; simp [Sp.ie])
            have hj9 : j + 1 ≤ 65536 := by omega
            have hn9 : n1 ≤ 65536 := by omega
            have HJL : Hid ((out.map Sp.ie ++ [((e : Int), (n1 : Int))]).length = j + 1) := Lib.hid (by simp [hj])
            have HAT : Hid ((out.map Sp.ie ++ [((e : Int), (n1 : Int))])[j]? = some ((e : Int), (n1 : Int))) := Lib.hid (by rw [List.getElem?_append_right (by rw [List.length_map]; omega), List.length_map, hj, Nat.sub_self]; rfl)
            rw [HE1.out] at E
            generalize out.map Sp.ie ++ [((e : Int), (n1 : Int))] = es at E HE2 HJL HAT
            clear hge hlr r1 r2 hj HE1
            obtain ⟨va, vc, rfl, hv1, hv2⟩ := own_shape E.out.row
            rw [HJL.out] at hv1
            cases va with
            | none =>
              exfalso
              rcases E.out.row.2 with ⟨_, h0⟩ | ⟨g, cap, cur, hv, _⟩
              · have := HJL.out; omega
              · cases hv
            | some ad =>
              obtain ⟨g, rfl, c1, c2⟩ := E.out.cell j (by rw [HJL.out]; omega)
              have hat := HAT.out
              rw [List.getElem?_eq_getElem (by rw [HJL.out]; omega)] at hat
              rw [Option.some.inj hat] at c1 c2
              have c3 := E.out.cellf (j * 2)
              have c4 := E.out.cellf (j * 2 + 1)
              have P9 := Lib.hid (E.out.put2 j ((e : Int), (n1 : Int) + 1))
              rw [HJL.out] at E P9 ⊢
              clear hat hk0 hp hpm
              simp only at c1 c2
              go_upto_region 8 with fail
              go_region
              have hg := (E.out.own g rfl).1
              have hb8 := (set_below (k := j * 2 + 1) (v := .int .i64 ((n1 : Int) + 1)) (set_below (k := j * 2) (v := .int .i64 (e : Int)) HB.out hg) hg).drew
              have P8 := Lib.hid (P9.out.later (Below.refl _ _).drew)
              have HB8 := Lib.hid hb8
              clear hb8 hg c1 c2 c3 c4 P9
              generalize (World.setCell _ _ _).drew = w8 at HB8 P8 ⊢
              clear i0 i1 i2 i3 i4 i5 j2
              go_wp2_with fail
              go_roundw
              case rel => exact ⟨k + 1, by omega, by go_num, HB8, Lib.hid (by rw [HE2.out]; exact P8.out)⟩
              case measure => simp [intOf]; omega
          · have hsi' : ¬ (s' : Int) = 0 := by omega
            have HL : Hid (∀ a x, m.take k = a ++ [x] → x.1 ≠ 0) := Lib.hid (fun a x e => by
              rw [HP.out] at e
              have := List.append_inj_right' e rfl
              simp at this
              rw [← this]; exact hs')
            clear hp hk0 hpm
            have HNW : Hid ((Sp.runs 0 (m.take (k + 1))).map Sp.ie = (Sp.runs 0 (m.take k)).map Sp.ie ++ [((k : Int), 1)]) := Lib.hid (by
              rw [HT.out, Sp.runs_snoc_new _ _ _ rfl HL.out, List.map_append, List.length_take, Nat.min_eq_left (by omega), Nat.zero_add]; rfl)
            have hlr := runs_le (m.take k) 0
            have hb5 : Below wr.heap.size wr (wr.alloc (.cells #[.int .i64 (k : Int), .int .i64 1] 35)) := (Below.refl _ wr).alloc (Nat.le_refl _) _
            have E5 := Lib.hid (E.out.later hb5)
            have hltw := (H.out.later HB.out).lt
            have X5 := Lib.hid (es_one (F := RF q bs bw) wr (k : Int) 1 hltw)
            have HLL : Hid (((Sp.runs 0 (m.take k)).map Sp.ie).length + [((k : Int), (1 : Int))].length ≤ 1000000) := Lib.hid (by rw [List.length_map]; rw [List.length_take] at hlr; simp; omega)
            have HBB := Lib.hid (bt5 HB.out hb5)
            have HSZ := Lib.hid (HBB.out.size)
            have HF5 := Lib.hid (fun (x : Nat) (hx : RF q bs bw x) => Nat.lt_of_lt_of_le (hltw x hx) hb5.size)
            generalize (Sp.runs 0 (m.take k)).map Sp.ie = es at *
            clear hb5 hlr hltw
            go_wp2_with (at_builtin; refine appEs E5.out X5.out rfl HLL.out HSZ.out HF5.out rfl _ _ rfl rfl rfl ?_; intro v9 w9 hE9 ht9)
            have hb9 := Lib.hid (ht9.below (fun x hx => (E5.out.own x hx).1) HBB.out HSZ.out)
            have HE9 := Lib.hid hE9
            clear hE9 ht9
            go_roundw
            case rel => exact ⟨k + 1, by omega, by go_num, hb9, Lib.hid (by rw [HNW.out]; exact HE9.out)⟩
            case measure => simp [intOf]; omega
      · have hsi : ¬ (s : Int) = 0 := by omega
        go_wp2_with fail
        go_roundw
        case rel => exact ⟨k + 1, by omega, by go_num, HB, Lib.hid (by rw [HT.out, Sp.runs_snoc_no _ _ _ hs]; exact E.out)⟩
        case measure => simp [intOf]; omega
    · have hki : ¬ (k : Int) < n := by omega
      have c0 := (H.out.later HB.out).c0
      rw [← HN.out] at c0
      have HE : Hid (m.take k = m) := Lib.hid (List.take_of_length_le (by rw [← HN.out]; omega))
      go_wp2_with fail
      go_ret
      exact ⟨_, rfl, HB.out, by have := E.out; rw [HE.out] at this; exact this⟩
end Go.Proofs.Ytgfgafondiipoaa
