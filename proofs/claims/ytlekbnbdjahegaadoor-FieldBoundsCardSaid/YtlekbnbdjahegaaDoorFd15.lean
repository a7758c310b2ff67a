/- Package field: headers, read: the document's own answer. -/
import Derived.Test.YtlekbnbdjahegaaDoorFd14
import Derived.LoopTactic
namespace Go.Proofs.YtlekbnbdjahegaaDoor
open Go.RowKit

/-- v reads as the octets l. -/
def BIn (w : World) (v : Value) (l : List UInt8) : Prop := ∃ ao cap, v = .slice ao l.length cap ∧ l.length ≤ cap ∧ cap ≤ 9223372036854775807 ∧ (l = [] ∨ ∃ b o, ao = some ⟨b, o, none⟩ ∧ b < w.heap.size ∧ ∀ j (hj : j < l.length), w.cell? ⟨b, o + j, none⟩ = some (.int .u8 (l[j].toNat : Int)))
theorem colon_is {l : List UInt8} {k : Nat} (hk : k ≤ l.length) (h1 : ∀ j (h : j < l.length), j < k → l[j] ≠ 58) (h2 : ∀ h : k < l.length, l[k] = 58) : Fld.colon l = k := Fld.colon_at l k h1 h2 hk
theorem ext_head (s : ByteArray) (ln : List UInt8) (k : Nat) (h : s.data.toList = ln) : s.extract 0 k = str (ln.take k) := by
  rw [← str_of (s.extract 0 k), cut_mid, h, List.drop_zero]
theorem ext_tail (s : ByteArray) (ln : List UInt8) (k : Nat) (h : s.data.toList = ln) : (s.extract k s.size).data.toList = ln.drop k := by
  rw [cut_mid, List.take_of_length_le (by rw [Oct.length_size]; exact Nat.le_refl _), h]

theorem colon_s (s : ByteArray) (k : Nat) (hk : k ≤ s.size) (h1 : ∀ j (h : j < s.size), j < k → s[j] ≠ 58) (h2 : ∀ h : k < s.size, s[k] = 58) : Fld.colon s.data.toList = k := by
  refine Fld.colon_at _ k (fun j hj hjk => ?_) (fun h => ?_) (by rw [Oct.length_size]; exact hk)
  · have hs : j < s.size := by rw [Oct.length_size] at hj; exact hj
    have := h1 j hs hjk
    rw [Array.getElem_toList]; exact this
  · have hs : k < s.size := by rw [Oct.length_size] at h; exact h
    have := h2 hs
    rw [Array.getElem_toList]; exact this

set_option maxHeartbeats 6400000 in
set_option maxRecDepth 100000 in
theorem rParse_w (v : Value) (l : List UInt8) (w : World) (hl : l.length ≤ 1000000) (h : BIn w v l) :
    Calls Tryd.prog 10 #[v] w fun e w' => ∃ v, e = .returned (.tuple #[v, .int .i64 (Fld.parse l).2.1, .int .i64 (Fld.parse l).2.2]) ∧ FBuf w w' v (Fld.parse l).1 := by
  obtain ⟨ao, c, rfl, hlc, hc9, hb⟩ := h
  obtain ⟨L, hL⟩ : ∃ L, L = l.length := ⟨_, rfl⟩
  have HL := Lib.hid hL
  have HB0 := Lib.hid hb
  rw [← hL] at hl hlc ⊢
  clear hb hL
  go_enter Tryd.func10, Tryd.ntmps10
  go_wp2_with fail
  go_loopw [5, 6] (fun v i wr => ∃ (n : Nat) (acc : List Fld.F), i = .int .i64 n ∧ Fld.At l n acc ∧ FBuf w wr v acc) (fun _ i _ => L - (intOf i).toNat)
  case atStart => exact ⟨0, [], rfl, Fld.At.start l, FBuf.nil w⟩
  case round =>
    obtain ⟨n, acc, rfl, hA, hB⟩ := hrel
    have hn1 : n ≤ L := by have := hA.1; have := HL.out; omega
    have hn2 : n ≤ 65536 := hA.2.1
    have hac : acc.length ≤ 128 := hA.2.2.1
    have HA := Lib.hid hA
    have HB := Lib.hid hB
    clear hA
    go_wp2_with fail
    go_loop [7] (fun i => ∃ e : Nat, n ≤ e ∧ e ≤ L ∧ i = .int .i64 e ∧ Hid (∀ j, n ≤ j → j < e → ¬ Fld.isC l j)) (fun i => L - (intOf i).toNat)
    case atStart => exact ⟨n, Nat.le_refl _, hn1, rfl, fun j h1 h2 => by omega⟩
    case round =>
      obtain ⟨e, hne, heL, rfl, HE⟩ := hrel
      by_cases hlt : e + 1 < L
      · obtain ⟨b, o, hao, hbl, hcell⟩ := HB0.out.resolve_left (fun x => by have := HL.out; rw [x] at this; simp at this; omega)
        subst hao
        have k0 : e < l.length := by have := HL.out; omega
        have k1 : e + 1 < l.length := by have := HL.out; omega
        have c0 := (hB.2.cell (p := ⟨b, o + e, none⟩) hbl).trans (hcell e k0)
        have c1 := (hB.2.cell (p := ⟨b, o + (e + 1), none⟩) hbl).trans (hcell (e + 1) k1)
        have g0 : l[e]? = some l[e] := List.getElem?_eq_getElem k0
        have g1 : l[e + 1]? = some l[e + 1] := List.getElem?_eq_getElem k1
        have HCV : Hid (∀ j (hj : j < l.length), u5 = u5 ∧ wr.cell? ⟨b, o + j, none⟩ = some (.int .u8 (l[j].toNat : Int))) := fun j hj => ⟨rfl, (hB.2.cell (p := ⟨b, o + j, none⟩) hbl).trans (hcell j hj)⟩
        generalize l[e] = x0 at c0 g0
        generalize l[e + 1] = x1 at c1 g1
        have hx0 := x0.toNat_lt
        have hx1 := x1.toNat_lt
        clear hcell
        by_cases h13 : (x0.toNat : Int) = 13
        · by_cases h10 : (x1.toNat : Int) = 10
          · have hend : Fld.endAt l n = some e := Fld.endAt_some hne ⟨by rw [g0, Oct.u8_eq (n := 13) h13], by rw [g1, Oct.u8_eq (n := 10) h10]⟩ HE.out
            have hnc : ¬ c = n := by omega
            clear g0 g1
            by_cases h6 : 65536 < e + 2
            · have HP := Lib.hid (HA.out.long hend h6)
              have b6 : (65536 : Int) < (e : Int) + 2 := by omega
              have hnb := hB.2
              clear hend h6 HCV
              go_wp2_with fail
              go_ret3
              exact ⟨_, by rw [HP.out]; rfl, by rw [HP.out]; exact FBuf.nil_of hnb⟩
            · have b6 : ¬ (65536 : Int) < (e : Int) + 2 := by omega
              have hlen : ((l.take e).drop n).length = e - n := by rw [List.length_drop, List.length_take]; omega
              have hcv := run_convert_bytes_back (P := Tryd.prog) wr 22 9 5 ⟨b, o + n, none⟩ (c - n) ((l.take e).drop n) Tryd.underlying22 Tryd.underlying5 Tryd.underlying9 (fun j hj => by
                rw [hlen] at hj
                rw [Addr.add_lit, Nat.add_assoc, (HCV.out (n + j) (by omega)).2]
                simp)
              rw [hlen] at hcv
              by_cases h0 : e = n
              · subst h0
                have HP := Lib.hid (HA.out.last hend (by omega))
                have e0 : (⟨((l.take e).drop e).toArray⟩ : ByteArray) = ⟨#[]⟩ := by
                  rw [List.drop_of_length_le (by rw [List.length_take]; omega)]
                rw [e0] at hcv
                rw [Nat.sub_self] at hcv
                clear hend h6 HCV e0 hlen
                go_upto_region 12 with fail
                clear b6
                go_wp2_with fail
                go_ret3
                exact ⟨_, by rw [HP.out]; rfl, by rw [HP.out]; exact HB.out⟩
              · obtain ⟨s, hs⟩ : ∃ s : ByteArray, s = ⟨((l.take e).drop n).toArray⟩ := ⟨_, rfl⟩
                have hsl : s.data.toList = (l.take e).drop n := by rw [hs]
                have hss : s.size = e - n := by rw [← Oct.length_size, hsl, hlen]
                rw [← hs] at hcv
                have hxe : s.toList.isEmpty = false := by
                  rw [Lib.toList_data]; cases h : s.data.toList with
                  | nil => have := Oct.length_size s; rw [h] at this; simp at this; omega
                  | cons _ _ => rfl
                have hxn : ¬ s.toList = [] := by
                  rw [Lib.toList_data]; intro h; have := Oct.length_size s; rw [h] at this; simp at this; omega
                have HSL := Lib.hid hsl
                have HEND := Lib.hid hend
                have hs9 : s.size ≤ 1000000 := by omega
                clear hss
                clear hend HCV hlen hs hsl
                go_upto_region 12 with fail
                clear b6
                go_wp2_with fail
                clear hcv
                go_loop [9] (fun i => ∃ k : Nat, k ≤ s.size ∧ i = .int .i64 k ∧ Hid (∀ j (h : j < s.size), j < k → s[j] ≠ 58)) (fun i => s.size - (intOf i).toNat)
                case atStart => exact ⟨0, by omega, rfl, fun j _ h => by omega⟩
                case round =>
                  obtain ⟨k, hk, rfl, HK⟩ := hrel
                  by_cases hks : k < s.size
                  · by_cases h58 : (s[k].toNat : Int) = 58
                    · have hcol := colon_s s k hk HK.out (fun _ => Oct.u8_eq (n := 58) h58)
                      rw [HSL.out] at hcol
                      have hkne : ¬ (k : Int) = (s.size : Int) := by omega
                      have hk1 : k + 1 ≤ s.size := hks
                      have hk2 : (k : Int) + 1 ≤ (s.size : Int) := by omega
                      have hk3 : (0 : Int) ≤ (k : Int) + 1 := by omega
                      have hk4 : (k : Int) ≤ (s.size : Int) := by omega
                      have hk5 : ((k : Int) + 1).toNat = k + 1 := by omega
                      have hk6 : IntKind.i64.wrap ((k : Int) + 1) = (k : Int) + 1 := by rw [IntKind.wrap_i64]; omega
                      have HX : Hid (s.extract 0 k = str (Fld.cutField ((l.take e).drop n)).1) := by
                        unfold Fld.cutField; rw [hcol]; exact Lib.hid (ext_head s _ k HSL.out)
                      have HY : Hid (str (Oct.trim (s.extract (k + 1) s.size).data.toList) = str (Fld.cutField ((l.take e).drop n)).2) := by
                        unfold Fld.cutField; rw [hcol, ext_tail s _ (k + 1) HSL.out]; exact Lib.hid rfl
                      have HCOL : Hid (Fld.colon ((l.take e).drop n) ≠ ((l.take e).drop n).length) := by
                        rw [hcol, ← HSL.out, Oct.length_size]; exact Lib.hid (by omega)
                      have cT := fun w => rTrim_s (s.extract (k + 1) s.size) w (by rw [ByteArray.size_extract]; omega)
                      generalize str (Oct.trim (s.extract (k + 1) s.size).data.toList) = Y at cT HY
                      have hwd : Below wr.heap.size wr wr.drew := (Below.refl _ wr).drew
                      clear hcol
                      go_wp2_with fail
                      go_region_with (go_at_call 28; refine (cT _).mono ?_; rintro e w1 ⟨rfl, rfl⟩)
                      all_goals
                        have hlt0 : wr.heap.size < (wr.alloc (.cells #[.string (s.extract 0 k), .string Y] 49)).heap.size := by simp
                        have g1 : (wr.alloc (.cells #[.string (s.extract 0 k), .string Y] 49)).drew.heap[wr.heap.size]? = some (.cells #[.string (s.extract 0 k), .string Y] 49 (0, 0)) := heap_alloc_new wr _
                        have hb1 : Below wr.heap.size wr (wr.alloc (.cells #[.string (s.extract 0 k), .string Y] 49)).drew := ((Below.refl _ wr).alloc (Nat.le_refl _) _).drew
                        generalize (wr.alloc (.cells #[.string (s.extract 0 k), .string Y] 49)).drew = w1 at *
                        generalize s.extract 0 k = X at *
                        obtain ⟨f0, f1, _, _⟩ := blk2 g1
                        have zz := readLine_small ((l.take e).drop n)
                        rw [← HSL.out, Oct.length_size, HSL.out, Fld.readLine, if_neg HCOL.out] at zz
                        obtain ⟨f, hf⟩ : ∃ f, f = Fld.cutField ((l.take e).drop n) := ⟨_, rfl⟩
                        rw [← hf] at zz HX HY
                        have HF := Lib.hid hf
                        have cF := fun w => fits_s f w (by omega) (by omega)
                        unfold fval at cF
                        rw [← HX.out, ← HY.out] at cF
                        clear hlt0 hf zz cT hwd hk1 hk2 hk3 hk4 hk5 hk6 h58 hkne hks
                        have HR0 : Hid (Fld.right f = false → Fld.parse l = ([], 0, 10)) := fun hr => HA.out.form HEND.out (by omega) h0 (Fld.fieldOf_wrong (by rw [← HF.out]; exact hr))
                        have HR1 : Hid (Fld.right f = true → acc.length ≥ 128 → Fld.parse l = ([], 0, 13)) := fun hr hm => HA.out.many HEND.out (by omega) h0 (f := f) (by rw [HF.out]; exact Fld.fieldOf_yes HCOL.out (by rw [← HF.out]; exact hr)) hm
                        have HR2 : Hid (Fld.right f = true → acc.length < 128 → Fld.At l (e + 2) (acc ++ [f])) := fun hr hm => HA.out.next HEND.out (by have := HL.out; omega) hne (by omega) h0 (by rw [HF.out]; exact Fld.fieldOf_yes HCOL.out (by rw [← HF.out]; exact hr)) hm
                        have hnL : e + 2 ≤ L := by omega
                        have hnn : n ≤ e := hne
                        clear h6 hne heL
                        cases hr : Fld.right f with
                        | false =>
                          rw [hr] at cF
                          have HP := Lib.hid (HR0.out hr)
                          clear hr
                          go_wp2_with (go_at_call 29; refine (cF _).mono ?_; rintro e w3 ⟨rfl, hb3⟩)
                          go_ret3
                          exact ⟨_, by rw [HP.out]; rfl, by rw [HP.out]; exact FBuf.nil_of (HB.out.2.trans ((hb1.trans (hb3.mono hb1.size)).mono HB.out.2.size))⟩
                        | true =>
                          rw [hr] at cF
                          obtain ⟨ax, cx, hv5, _⟩ := hB.fin
                          obtain ⟨A, hA5⟩ : ∃ A, A = acc.length := ⟨_, rfl⟩
                          rw [← hA5] at hv5 hac
                          have HA5 := Lib.hid hA5
                          subst hv5
                          clear hA5
                          by_cases h128 : 128 ≤ A
                          · have HP := Lib.hid (HR1.out hr (by have := HA5.out; omega))
                            have b1 : (128 : Int) ≤ (A : Int) := by omega
                            clear hr HR0 HR1 HR2 h128
                            go_wp2_with (go_at_call 29; refine (cF _).mono ?_; rintro e w3 ⟨rfl, hb3⟩)
                            go_ret3
                            exact ⟨_, by rw [HP.out]; rfl, by rw [HP.out]; exact FBuf.nil_of (HB.out.2.trans ((hb1.trans (hb3.mono hb1.size)).mono HB.out.2.size))⟩
                          · have HP := Lib.hid (HR2.out hr (by have := HA5.out; omega))
                            have b1 : ¬ (128 : Int) ≤ (A : Int) := by omega
                            have hal : acc.length ≤ 1000000000 := by have := HA5.out; omega
                            clear hr HR0 HR1 HR2 h128
                            go_wp2_with (first
                              | (go_at_call 29; refine (cF _).mono ?_; rintro e w3 ⟨rfl, hb3⟩; obtain ⟨f0', f1', _, _⟩ := blk2 ((hb3.block _ (lt_of_block g1)).trans g1); have hB3 := HB.out.after (hb1.trans (hb3.mono hb1.size)))
                              | (at_builtin; refine appF hB3 f hal rfl _ _ rfl X Y HX.out HY.out rfl rfl ?_; intro v' w4 hB4))
                            go_roundw
                            case rel => exact ⟨e + 2, acc ++ [f], by go_num, HP.out, hB4⟩
                            case measure => simp [intOf]; omega
                    · have HK2 : Hid (∀ j (h : j < s.size), j < k + 1 → s[j] ≠ 58) := fun j h hj he => by
                        rcases Nat.lt_or_ge j k with hjk | hjk
                        · exact HK.out j h hjk he
                        · obtain rfl : j = k := by omega
                          exact h58 (by rw [he]; rfl)
                      have b58 : ((s[k].toNat : Int) == 58) = false := beq_eq_false_iff_ne.2 h58
                      go_wp2_with fail
                      go_round
                      case rel => exact ⟨k + 1, by omega, by go_num, HK2⟩
                      case measure => simp [intOf]; omega
                  · obtain rfl : k = s.size := by omega
                    have hcol := colon_s s s.size (Nat.le_refl _) HK.out (fun h => by omega)
                    rw [HSL.out] at hcol
                    have HP := Lib.hid (HA.out.form HEND.out (by omega) h0 (Fld.fieldOf_no (by rw [hcol, ← HSL.out, Oct.length_size])))
                    have hnb := hB.2
                    clear hcol
                    go_wp2_with fail
                    go_ret3
                    exact ⟨_, by rw [HP.out]; rfl, by rw [HP.out]; exact FBuf.nil_of hnb⟩
          · have HE2 : Hid (∀ j, n ≤ j → j < e + 1 → ¬ Fld.isC l j) := fun j hj1 hj2 hc => by
              rcases Nat.lt_or_ge j e with hj | hj
              · exact HE.out j hj1 hj hc
              · obtain rfl : j = e := by omega
                have h2 := hc.2
                rw [g1] at h2
                have := Option.some.inj h2
                subst this
                exact h10 rfl
            have b10 : ((x1.toNat : Int) == 10) = false := beq_eq_false_iff_ne.2 h10
            clear g0 g1
            go_wp2_with fail
            go_round
            case rel => exact ⟨e + 1, by omega, by omega, by go_num, HE2⟩
            case measure => simp [intOf]; omega
        · have HE2 : Hid (∀ j, n ≤ j → j < e + 1 → ¬ Fld.isC l j) := fun j hj1 hj2 hc => by
            rcases Nat.lt_or_ge j e with hj | hj
            · exact HE.out j hj1 hj hc
            · obtain rfl : j = e := by omega
              have h2 := hc.1
              rw [g0] at h2
              have := Option.some.inj h2
              subst this
              exact h13 rfl
          have b13 : ((x0.toNat : Int) == 13) = false := beq_eq_false_iff_ne.2 h13
          clear g0 g1
          go_wp2_with fail
          go_round
          case rel => exact ⟨e + 1, by omega, by omega, by go_num, HE2⟩
          case measure => simp [intOf]; omega
      · have hend : Fld.endAt l n = none := Fld.endAt_none (fun j hj hc => by
          rcases Nat.lt_or_ge j e with h | h
          · exact HE.out j hj h hc
          · have := Fld.isC_lt hc; have := HL.out; omega)
        have HP := Lib.hid (HA.out.more hend)
        rw [← HL.out] at HP
        have hnb := hB.2
        by_cases h6 : 65536 < L
        · rw [if_pos h6] at HP
          have b6 : (65536 : Int) < (L : Int) := by omega
          clear hend h6
          go_wp2_with fail
          go_ret3
          exact ⟨_, by rw [HP.out]; rfl, by rw [HP.out]; exact FBuf.nil_of hnb⟩
        · rw [if_neg h6] at HP
          have b6 : ¬ (65536 : Int) < (L : Int) := by omega
          clear hend h6
          go_wp2_with fail
          go_ret3
          exact ⟨_, by rw [HP.out]; rfl, by rw [HP.out]; exact FBuf.nil_of hnb⟩
end Go.Proofs.YtlekbnbdjahegaaDoor
