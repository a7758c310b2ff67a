/- The statements of layer 9: VaryBlanks. -/
import Derived.Test.YtelndkglimkfeaaDoorVr14
namespace Go.Proofs.YtelndkglimkfeaaDoor
open Go.RowKit

set_option maxHeartbeats 12800000 in
set_option maxRecDepth 100000 in
theorem blanks_w (vn : Value) (ns : List (List UInt8)) (vf : Value) (fs : List Fld.F) (m : Fld.F) (w : World) (hn : SIn w vn ns) (ln : ns.length ≤ 9223372036854775807) (zn : ∀ l ∈ ns, l.length ≤ 9223372036854775807)
    (hf : FIn w vf fs) (lf : fs.length ≤ 9223372036854775807) (zf : ∀ f ∈ fs, f.1.length ≤ 9223372036854775807 ∧ f.2.length ≤ 9223372036854775807) (m1 : m.1.length ≤ 9223372036854775807) (m2 : m.2.length ≤ 9223372036854775807) :
    Calls Tryd.prog 6 #[vn, vf, fval m] w fun e w' => e = .returned (.bool true) ∧ Below w.heap.size w w' := by
  unfold fval
  have mx1 : (str m.1).size ≤ 9223372036854775807 := by rw [str_size]; exact m1
  have mx2 : (str m.2).size ≤ 9223372036854775807 := by rw [str_size]; exact m2
  obtain ⟨x, hx⟩ : ∃ x, x = str m.1 := ⟨_, rfl⟩
  obtain ⟨y, hy⟩ : ∃ y, y = str m.2 := ⟨_, rfl⟩
  rw [← hx, ← hy]
  rw [← hx] at mx1
  rw [← hy] at mx2
  have HX := Lib.hid hx
  have HY := Lib.hid hy
  have B0 : Below w.heap.size w (w.alloc (.cells #[.string x, .string y] 35)) := (Below.refl _ w).alloc (Nat.le_refl _) _
  have HBX : Hid (∀ w1, Below (w.alloc (.cells #[.string x, .string y] 35)).heap.size (w.alloc (.cells #[.string x, .string y] 35)) w1 → w1.cell? ⟨w.heap.size, 0, none⟩ = some (.string x) ∧ w1.cell? ⟨w.heap.size, 1, none⟩ = some (.string y)) :=
    Lib.hid (fun w1 hb => ⟨(fcell hb).1, (fcell hb).2.1⟩)
  have cF := fun (w1 : World) (h : Below w.heap.size w w1) => few_w vn ns w1 (hn.later h) ln zn
  have cA := fun (w1 : World) (h : Below w.heap.size w w1) => short_w vf fs w1 (hf.later h) lf zf
  clear hx hy m1 m2
  by_cases hfew : fewS ns = true
  case neg =>
    have f0 : fewS ns = false := by simpa using hfew
    rw [f0] at cF
    clear hfew f0 cA
    go_enter Tryd.func6, Tryd.ntmps6
    go_wp2_with fail
    refine (awake_w _).mono ?_
    rintro e w1 ⟨rfl, hb1⟩
    obtain ⟨x1, y1⟩ := HBX.out w1 hb1
    have hbw := B0.trans (hb1.mono B0.size)
    go_wp2_with fail
    refine (cF w1 hbw).mono ?_
    rintro e w0 ⟨rfl, rfl⟩
    go_wp2_with fail
    refine (awake_w w1).mono ?_
    rintro e wz ⟨rfl, hbz⟩
    go_wp2_with fail
    go_ret
    exact ⟨rfl, hbw.trans (hbz.mono hbw.size)⟩
  rw [hfew] at cF
  by_cases hsh : shortS fs = true
  case neg =>
    have f0 : shortS fs = false := by simpa using hsh
    rw [f0] at cA
    clear hfew hsh f0
    go_enter Tryd.func6, Tryd.ntmps6
    go_wp2_with fail
    refine (awake_w _).mono ?_
    rintro e w1 ⟨rfl, hb1⟩
    obtain ⟨x1, y1⟩ := HBX.out w1 hb1
    have hbw := B0.trans (hb1.mono B0.size)
    go_wp2_with fail
    refine (cF w1 hbw).mono ?_
    rintro e w0 ⟨rfl, rfl⟩
    go_wp2_with fail
    refine (cA w1 hbw).mono ?_
    rintro e w0 ⟨rfl, rfl⟩
    go_wp2_with fail
    refine (awake_w w1).mono ?_
    rintro e wz ⟨rfl, hbz⟩
    go_wp2_with fail
    go_ret
    exact ⟨rfl, hbw.trans (hbz.mono hbw.size)⟩
  rw [hsh] at cA
  by_cases g1 : (300 : Int) < x.size
  · clear hfew hsh
    go_enter Tryd.func6, Tryd.ntmps6
    go_wp2_with fail
    refine (awake_w _).mono ?_
    rintro e w1 ⟨rfl, hb1⟩
    obtain ⟨x1, y1⟩ := HBX.out w1 hb1
    have hbw := B0.trans (hb1.mono B0.size)
    go_wp2_with fail
    refine (cF w1 hbw).mono ?_
    rintro e w0 ⟨rfl, rfl⟩
    go_wp2_with fail
    refine (cA w1 hbw).mono ?_
    rintro e w0 ⟨rfl, rfl⟩
    go_wp2_with fail
    refine (awake_w w1).mono ?_
    rintro e wz ⟨rfl, hbz⟩
    go_wp2_with fail
    go_ret
    exact ⟨rfl, hbw.trans (hbz.mono hbw.size)⟩
  by_cases g2 : (500 : Int) < y.size
  · clear hfew hsh
    go_enter Tryd.func6, Tryd.ntmps6
    go_wp2_with fail
    refine (awake_w _).mono ?_
    rintro e w1 ⟨rfl, hb1⟩
    obtain ⟨x1, y1⟩ := HBX.out w1 hb1
    have hbw := B0.trans (hb1.mono B0.size)
    go_wp2_with fail
    refine (cF w1 hbw).mono ?_
    rintro e w0 ⟨rfl, rfl⟩
    go_wp2_with fail
    refine (cA w1 hbw).mono ?_
    rintro e w0 ⟨rfl, rfl⟩
    go_wp2_with fail
    refine (awake_w w1).mono ?_
    rintro e wz ⟨rfl, hbz⟩
    go_wp2_with fail
    go_ret
    exact ⟨rfl, hbw.trans (hbz.mono hbw.size)⟩
  have n1 := (fewS_spec hfew).1
  have n2 : ∀ n ∈ ns, n.length ≤ 1000 := fun l hl => Nat.le_trans ((fewS_spec hfew).2 l hl) (by decide)
  obtain ⟨s1, s2⟩ := shortS_spec hsh
  have cN := fun (w1 : World) (h : Below w.heap.size w w1) => rNames_w vn ns w1 (hn.later h) (by omega) n2
  have hnl : (Vr.names ns).1.length ≤ 20020 := by
    have h1 := Vr.names_length ns
    have h2 := Vr.splitAll_lens ns 500 (fewS_spec hfew).2
    have h3 := Nat.mul_le_mul_right (2 * 500 + 1) n1
    omega
  have hnz : ∀ l ∈ (Vr.names ns).1, l.length ≤ 1000 := names_small n2
  have hlow : ∀ l ∈ (Vr.names ns).1, Oct.lower l = l := fun l hl => Vr.names_low hl
  generalize hNM : Vr.names ns = NM at *
  obtain ⟨X, t⟩ := NM
  simp only at hnl hnz hlow
  have hxm : m.1.length ≤ 300 := by rw [← str_size, ← HX.out]; omega
  have hym : m.2.length ≤ 500 := by rw [← str_size, ← HY.out]; omega
  have HLOW := Lib.hid hlow
  have HNZ := Lib.hid hnz
  have HS2 := Lib.hid s2
  have HM1 : Hid (fs.all Vr.calmF = true → ∀ (v v9 : Value) (w1 : World), SIn w1 v X → Below w.heap.size w w1 → FIn w1 v9 (Vr.odd fs) → Calls Tryd.prog 16 #[v, vf, v9] w1 fun e w' => e = .returned (.bool true) ∧ Below w1.heap.size w1 w') := Lib.hid (fun hc v v9 w1 hv h h9 => by
    have c := Match_w v X vf v9 fs (Vr.odd fs) w1 hv (by omega) (fun l hl => Nat.le_trans (hnz l hl) (by decide)) (hf.later h) h9 (shortS_fits hsh) (odd_fits hsh)
    rw [Vr.fits_odd fs X hc] at c; exact c)
  have HM2 : Hid (fs.all Vr.calmF = true → (∀ n ∈ X, Oct.lower m.1 ≠ n) → ∀ (v v9 : Value) (w1 : World), SIn w1 v X → Below w.heap.size w w1 → FIn w1 v9 (Vr.odd fs ++ [m]) → Calls Tryd.prog 16 #[v, vf, v9] w1 fun e w' => e = .returned (.bool true) ∧ Below w1.heap.size w1 w') := Lib.hid (fun hc hm v v9 w1 hv h h9 => by
    have c := Match_w v X vf v9 fs (Vr.odd fs ++ [m]) w1 hv (by omega) (fun l hl => Nat.le_trans (hnz l hl) (by decide)) (hf.later h) h9 (shortS_fits hsh) (odd_fits1 hsh hxm hym)
    rw [Vr.fits_more fs X m hc hlow hm] at c; exact c)
  have HOL : Hid ((Vr.odd fs).length ≤ 15060) := Lib.hid (by
    have h3 := Vr.odd_length fs 500 (fun f h => (s2 f h).2)
    have h4 := Nat.mul_le_mul_right (500 + 2) s1
    omega)
  have HOT : Hid (∀ i, (Vr.odd (fs.take i)).length ≤ 15060) := Lib.hid (fun i => by
    have h3 := Vr.odd_length (fs.take i) 500 (fun f h => (s2 f (List.mem_of_mem_take h)).2)
    have h4 := Nat.mul_le_mul_right (500 + 2) (Nat.le_trans (List.length_take_le' i fs) s1)
    omega)
  obtain ⟨aa, ca, rfl, hcf⟩ := id hf
  obtain ⟨n, hnn⟩ : ∃ n, n = fs.length := ⟨_, rfl⟩
  have HN := Lib.hid hnn
  rw [← hnn] at cA s1 lf HM1 HM2 ⊢
  have HCF := Lib.hid hcf
  have hxb : (str (Oct.lower m.1)).size ≤ 300 := by rw [str_size, Oct.lower_length]; exact hxm
  have cLx := fun (w1 : World) => rLower_s x w1 (by omega)
  rw [HX.out, str_list, ← HX.out] at cLx
  clear hn hf ln lf zn zf n1 n2 hsh hfew s2 hnz hlow hcf hnn hxm hym hNM
  cases t with
  | false =>
    go_enter Tryd.func6, Tryd.ntmps6
    go_wp2_with fail
    refine (awake_w _).mono ?_
    rintro e w1 ⟨rfl, hb1⟩
    obtain ⟨x1, y1⟩ := HBX.out w1 hb1
    have hbw := B0.trans (hb1.mono B0.size)
    go_wp2_with fail
    refine (cF w1 hbw).mono ?_
    rintro e w0 ⟨rfl, rfl⟩
    go_wp2_with fail
    refine (cA w1 hbw).mono ?_
    rintro e w0 ⟨rfl, rfl⟩
    clear cF cA
    go_wp2_with fail
    clear x1 y1
    refine (cN w1 hbw).mono ?_
    rintro e w3 ⟨v7, rfl, hB3⟩
    have hb3 := hbw.trans (hB3.2.mono hbw.size)
    have hb3x := hb1.trans (hB3.2.mono hb1.size)
    have hS7 := hB3.sin
    clear hB3 hb1
    go_wp2_with fail
    go_ret
    exact ⟨rfl, hb3⟩
  | true =>
    go_enter Tryd.func6, Tryd.ntmps6
    go_wp2_with fail
    refine (awake_w _).mono ?_
    rintro e w1 ⟨rfl, hb1⟩
    obtain ⟨x1, y1⟩ := HBX.out w1 hb1
    have hbw := B0.trans (hb1.mono B0.size)
    go_wp2_with fail
    refine (cF w1 hbw).mono ?_
    rintro e w0 ⟨rfl, rfl⟩
    go_wp2_with fail
    refine (cA w1 hbw).mono ?_
    rintro e w0 ⟨rfl, rfl⟩
    clear cF cA
    go_wp2_with fail
    clear x1 y1
    refine (cN w1 hbw).mono ?_
    rintro e w3 ⟨v7, rfl, hB3⟩
    have hb3 := hbw.trans (hB3.2.mono hbw.size)
    have hb3x := hb1.trans (hB3.2.mono hb1.size)
    have hS7 := hB3.sin
    clear hB3 hb1
    clear hbw cN
    have HS7 := Lib.hid hS7
    obtain ⟨aX, cX, rfl, hX⟩ := hS7
    have HCX := Lib.hid hX
    obtain ⟨q, hq⟩ : ∃ q, q = X.length := ⟨_, rfl⟩
    have HQ := Lib.hid hq
    rw [← hq] at HS7 hnl ⊢
    clear hq hX
    go_wp2_with fail
    go_loopw [9, 10, 11, 12, 13, 14, 15] (fun o i _ _ _ _ _ wr => ∃ k : Nat, k ≤ n ∧ i = .int .i64 k ∧ FBuf w3 wr o (Vr.odd (fs.take k)) ∧ Hid ((fs.take k).all Vr.calmF = true)) (fun _ i _ _ _ _ _ _ => n - (intOf i).toNat)
    case atStart => exact ⟨0, by omega, rfl, FBuf.nil w3, Lib.hid rfl⟩
    case round =>
      obtain ⟨k, hk, rfl, hB, HC⟩ := hrel
      have hbr := hB.2
      have hbw := hb3.trans (hbr.mono hb3.size)
      by_cases hlt : k < n
      · have ka : k < fs.length := by have := HN.out; omega
        obtain ⟨bf, of_, hbf, hbl, hcc⟩ := HCF.out.resolve_left (fun e => by have h := HN.out; rw [e] at h; simp at h; omega)
        subst hbf
        have c1 := (hbw.cell (p := ⟨bf, of_ + k * 2, none⟩) hbl).trans (hcc k ka).1
        have c2 := (hbw.cell (p := ⟨bf, of_ + k * 2 + 1, none⟩) hbl).trans (hcc k ka).2
        obtain ⟨z1, z2⟩ := HS2.out _ (List.getElem_mem ka)
        have HOS := Lib.hid (Vr.odd_snoc fs k ka)
        have HCA := Lib.hid (fun (h : Vr.calmF fs[k] = true) => calm_all ka HC.out h)
        obtain ⟨f, hf⟩ : ∃ f, f = fs[k] := ⟨_, rfl⟩
        rw [← hf] at c1 c2 z1 z2 HOS HCA
        have HFE := Lib.hid hf
        obtain ⟨PS, hPS⟩ : ∃ PS, PS = Oct.splitText f.2 := ⟨_, rfl⟩
        have cS := fun (w1 : World) => rSplit_s _ [f.2] (w1.alloc (.cells #[.string (str f.2)] 9)) (sin_one w1 _ _ rfl) (by simp) (fun l hl => by rw [List.mem_singleton.1 hl]; omega)
        rw [Vr.splitAll_one, ← hPS] at cS
        have hpp := Vr.piece_len (ls := [f.2]) (m := 500) (fun l hl => by rw [List.mem_singleton.1 hl]; exact z2)
        rw [Vr.splitAll_one, ← hPS] at hpp
        have hpn := Oct.splitText_len f.2
        rw [← hPS] at hpn
        have HPS := Lib.hid hPS
        have HPP := Lib.hid hpp
        have hsz1 : (str f.1).size ≤ 300 := by rw [str_size]; exact z1
        have hsz2 : (str f.2).size ≤ 500 := by rw [str_size]; exact z2
        obtain ⟨s, hs⟩ : ∃ s, s = str f.1 := ⟨_, rfl⟩
        obtain ⟨u, hu⟩ : ∃ u, u = str f.2 := ⟨_, rfl⟩
        rw [← hs] at c1 hsz1
        rw [← hu] at c2 hsz2 cS
        have HSS := Lib.hid hs
        have HU := Lib.hid hu
        have hot := HOT.out k
        obtain ⟨OD, hOD⟩ : ∃ OD, OD = Vr.odd (fs.take k) := ⟨_, rfl⟩
        rw [← hOD] at hB hot
        have HOD := Lib.hid hOD
        obtain ⟨p, hp⟩ : ∃ p, p = PS.length := ⟨_, rfl⟩
        have HP := Lib.hid hp
        have hp9 : p ≤ 501 := by omega
        obtain ⟨tb, htb⟩ : ∃ tb : Bool, tb = ((p : Int) == 0) := ⟨_, rfl⟩
        have HTB := Lib.hid htb
        clear hf hPS hpp hs hu hOD hcc hpn z1 z2 htb
        go_upto_region 11 with (go_at_call 19; refine (cS _).mono ?_; rintro e w5 ⟨v11, rfl, hB11⟩)
        have hal : Below wr.heap.size wr (wr.alloc (.cells #[.string u] 9)) := (Below.refl _ wr).alloc (Nat.le_refl _) _
        have hb5 := hal.trans (hB11.2.mono hal.size)
        have hB5 := hB.after hb5
        have hR11 := hB11.1
        obtain ⟨a11, cp11, rfl, _⟩ := SIn.of_row hR11
        rw [← hp] at hR11 ⊢
        have c1' := (hb5.cell (p := ⟨bf, of_ + k * 2, none⟩) (World.block_lt_of_cell? _ _ c1)).trans c1
        have c2' := (hb5.cell (p := ⟨bf, of_ + k * 2 + 1, none⟩) (World.block_lt_of_cell? _ _ c2)).trans c2
        generalize (wr.alloc (.cells #[.string u] 9)).heap.size = bs at hR11
        clear hB11 hal hp hB c1 c2
        go_cut [64] from 62 to 64 (fun x64 wx => x64 = .bool tb ∧ w5 = wx)
        case first =>
          go_wp2_with fail
          go_meet
          case rel => exact ⟨by rw [HTB.out], rfl⟩
        case rest =>
        obtain ⟨rfl, rfl⟩ := hcut
        go_upto_if 64 with fail
        go_cut [9] from 65 to 71 (fun x9 wx => FBuf w3 wx x9 (OD ++ oddTo f (PS.take 0)) ∧ wx.ownsRow bs 9 1 (.slice a11 p cp11) p (strCells PS))
        case first =>
          cases tb with
          | false =>
            have hne : OD ++ oddTo f (PS.take 0) = OD := by
              have h0 : ¬ p = 0 := fun e => by have := HTB.out; rw [e] at this; simp at this
              unfold oddTo
              rw [if_neg (by rw [← HPS.out]; intro e; rw [HP.out, e] at h0; exact h0 rfl)]; simp
            have HNE := Lib.hid hne
            clear hne
            go_wp2_with fail
            go_meet
            case rel => exact ⟨by rw [HNE.out]; exact hB5, hR11⟩
          | true =>
            have hne : OD ++ oddTo f (PS.take 0) = OD ++ [f] := by
              have h0 : (p : Int) = 0 := by have := HTB.out.symm; simpa using this
              unfold oddTo
              rw [if_pos (by rw [← HPS.out]; exact List.eq_nil_of_length_eq_zero (by rw [← HP.out]; omega))]; simp
            have HNE := Lib.hid hne
            have hod9 : OD.length ≤ 1000000000 := by omega
            clear hne
            go_wp2_with (at_builtin; refine appF2 hB5 f hod9 rfl _ _ rfl s u HSS.out HU.out rfl rfl ?_; intro v9 w6 hB6 hK6)
            go_meet
            case rel => exact ⟨by rw [HNE.out]; exact hB6, row_kept hR11 hK6 (by decide)⟩
        case rest =>
        obtain ⟨hB6, hR6⟩ := hcut
        clear hB5 hR11 c1' c2'
        have hbw6 := hb3.trans (hB6.2.mono hb3.size)
        have c1 := (hbw6.cell (p := ⟨bf, of_ + k * 2, none⟩) hbl).trans ((HCF.out.resolve_left (fun e => by have h := HN.out; rw [e] at h; simp at h; omega)).elim fun b h => h.elim fun o h => by
          obtain ⟨h1, _, h3⟩ := h
          cases h1
          exact (h3 k ka).1)
        rw [← HFE.out, ← HSS.out] at c1
        have hcv := run_bytes_of_string (P := Tryd.prog) wc 9 37 5 s Tryd.underlying9 Tryd.underlying37 Tryd.underlying5
        have hR := Row.copy wc s (grownCap wc s.size 0 5)
        have hbc : Below wc.heap.size wc ((wc.drew.alloc (.cells (bytesRow s (grownCap wc s.size 0 5)) 5 ((bytesRow s (grownCap wc s.size 0 5)).size, (bytesRow s (grownCap wc s.size 0 5)).size + 1)))) := (Below.refl _ wc).drew.alloc (Nat.le_refl _) _
        generalize grownCap wc s.size 0 5 = cap at hcv hR hbc
        generalize ((wc.drew.alloc (.cells (bytesRow s cap) 5 ((bytesRow s cap).size, (bytesRow s cap).size + 1)))) = W6 at hcv hR hbc
        go_wp2_with fail
        clear hcv c1
        go_loopw [13] (fun i wr => ∃ k : Nat, k ≤ s.size ∧ i = .int .i64 k ∧ Row wr wc.heap.size (Vr.upTo s.data.toList k) ∧ Below wc.heap.size wc wr) (fun i _ => s.size - (intOf i).toNat)
        case atStart => exact ⟨0, by omega, rfl, by rw [Vr.upTo_zero]; exact hR, hbc⟩
        case round =>
          obtain ⟨j, hj, rfl, hR', hbr⟩ := hrel
          clear hR hbc
          by_cases hjs : j < s.size
          · have hkl : j < (Vr.upTo s.data.toList j).length := by rw [Vr.upTo_length, Oct.length_size]; exact hjs
            obtain ⟨hcell, hfz⟩ := hR'.cell j hkl
            rw [Vr.upTo_at s j hjs] at hcell
            have HNx := Lib.hid (Vr.upTo_next s j hjs)
            have hc := (s[j]).toNat_lt
            rcases (show (s[j].toNat : Int) < 97 ∨ ((97 : Int) ≤ s[j].toNat ∧ (s[j].toNat : Int) ≤ 122) ∨ (122 : Int) < s[j].toNat by omega) with hu | ⟨h1, h2⟩ | hu
            · have HL := Lib.hid (Vr.upTo_same s j hjs (by omega))
              go_wp2_with fail
              go_roundw
              case rel => exact ⟨j + 1, by omega, by go_num, by rw [HL.out]; exact hR', hbr⟩
              case measure => simp [intOf]; omega
            · have HS := hR'.set j hkl (Vr.up8 s[j]) _ (Vr.up_yes s[j] h1 h2)
              go_wp2_with fail
              go_roundw
              case rel => exact ⟨j + 1, by omega, by go_num, by rw [HNx.out]; exact HS, hbr.setCell (Nat.le_refl _) _⟩
              case measure => simp [intOf]; omega
            · have HL := Lib.hid (Vr.upTo_same s j hjs (by omega))
              go_wp2_with fail
              go_roundw
              case rel => exact ⟨j + 1, by omega, by go_num, by rw [HL.out]; exact hR', hbr⟩
              case measure => simp [intOf]; omega
          · obtain rfl : j = s.size := by omega
            rw [Vr.upTo_all] at hR'
            have hlu : (Vr.upper s.data.toList) = Vr.upper f.1 := by rw [HSS.out, str_list]
            rw [hlu] at hR'
            have hB7 := hB6.after hbr
            have hR7 := row_below hR6 hbr
            clear hB6 hR6 hbw6 hbr hlu
            have hbw7 := hb3.trans (hB7.2.mono hb3.size)
            have hsu : s.size = (Vr.upper f.1).length := by rw [Vr.upper_length, ← str_size, ← HSS.out]
            have HSU := Lib.hid hsu
            obtain ⟨sz, hsz⟩ : ∃ sz, sz = s.size := ⟨_, rfl⟩
            have HSZ := Lib.hid hsz
            rw [← hsz] at hsz1 ⊢
            clear hsu hjs hj hsz
            go_wp2_with fail
            go_loopw [9, 14, 15] (fun o i _ wr => ∃ j : Nat, j ≤ p ∧ i = .int .i64 j ∧ FBuf w3 wr o (OD ++ oddTo f (PS.take j)) ∧ wr.ownsRow bs 9 1 (.slice a11 p cp11) p (strCells PS) ∧ Row wr wc.heap.size (Vr.upper f.1) ∧ Hid ((PS.take j).all (fun p => !p.contains 34) = true)) (fun _ i _ _ => p - (intOf i).toNat)
            case atStart => exact ⟨0, by omega, rfl, hB7, hR7, hR', Lib.hid rfl⟩
            case round =>
              clear hB7 hR7 hR' hbw7
              obtain ⟨j, hj, rfl, hB8, hR8, hW8, HA⟩ := hrel
              have hbw8 := hb3.trans (hB8.2.mono hb3.size)
              by_cases hjp : j < p
              · have jp : j < PS.length := by have := HP.out; omega
                rcases id hR8.2 with ⟨h0, h1⟩ | ⟨gl, cpl, cur, hv, -, -, hpc, -⟩
                · omega
                cases hv
                obtain ⟨c3, _⟩ := row_cell hR8 j hjp jp
                have hq5 : (str PS[j]).size ≤ 500 := by rw [str_size]; exact HPP.out _ (List.getElem_mem jp)
                have HQS := Lib.hid (str_list PS[j])
                have HWR := Lib.hid (wrap_str PS[j])
                have HOS2 := Lib.hid (oddTo_snoc f PS j jp)
                obtain ⟨qs, hqs⟩ : ∃ qs, qs = str PS[j] := ⟨_, rfl⟩
                rw [← hqs] at c3 hq5 HQS HWR
                clear hqs
                go_wp2_with fail
                go_loop [15] (fun i => ∃ t : Nat, t ≤ qs.size ∧ i = .int .i64 t ∧ Hid (34 ∉ qs.data.toList.take t)) (fun i => qs.size - (intOf i).toNat)
                case atStart => exact ⟨0, by omega, rfl, Lib.hid (by simp)⟩
                case round =>
                  obtain ⟨t, ht, rfl, HT⟩ := hrel
                  by_cases htq : t < qs.size
                  · by_cases h34 : (qs[t].toNat : Int) = 34
                    · have b34 : ((qs[t].toNat : Int) == 34) = true := beq_iff_eq.2 h34
                      clear h34
                      go_wp2_with fail
                      go_ret
                      exact ⟨rfl, hbw8⟩
                    · have b34 : ((qs[t].toNat : Int) == 34) = false := beq_eq_false_iff_ne.2 h34
                      have HT1 := Lib.hid (no34_snoc qs t htq HT.out h34)
                      clear h34
                      go_wp2_with fail
                      go_round
                      case rel => exact ⟨t + 1, by omega, by go_num, HT1⟩
                      case measure => simp [intOf]; omega
                  · have h34 : 34 ∉ PS[j] := by
                      have := HT.out
                      rw [List.take_of_length_le (by rw [Oct.length_size]; omega), HQS.out] at this; exact this
                    have HA1 := Lib.hid (calm_snoc jp HA.out h34)
                    clear h34
                    have hcs := (hW8.later ((Below.refl _ wr).drew)).string (n := sz) (cap := cap) (by rw [HSZ.out, HSU.out])
                    have hBd := hB8.after ((Below.refl _ wr).drew)
                    have hlen : (OD ++ oddTo f (PS.take j)).length ≤ 1000000000 := by
                      have h1 := oddTo_length f (PS.take j)
                      rw [List.length_take] at h1
                      rw [List.length_append]; omega
                    have hq1 : ¬ 9223372036854775807 < 2 + qs.size := by omega
                    have hq2 : ¬ 9223372036854775807 < 2 + qs.size + 2 := by omega
                    obtain ⟨U, hU⟩ : ∃ U, U = str (Vr.upper f.1) := ⟨_, rfl⟩
                    rw [← hU] at hcs
                    have HUU := Lib.hid hU
                    clear hU hB8
                    go_wp2_with fail
                    go_region_law (refine appFO hBd (Vr.upper f.1, Vr.wrap PS[j]) hlen (.tmp 126) (.tmp 136) rfl _ _ HUU.out HWR.out rfl rfl ?_; intro v9 w9 hB9 hK9)
                    all_goals go_wp2_with fail
                    all_goals go_roundw
                    all_goals first
                      | exact ⟨j + 1, by omega, by go_num, by rw [HOS2.out, ← List.append_assoc]; exact hB9, row_kept (row_below hR8 ((Below.refl _ wr).drew)) hK9 (by decide), (hW8.later ((Below.refl _ wr).drew)).kept hK9 (by decide), HA1⟩
                      | (simp [intOf]; omega)
              · obtain rfl : j = p := by omega
                have hT : PS.take j = PS := List.take_of_length_le (by have := HP.out; omega)
                rw [hT] at hB8
                have hcalm : Vr.calmF f = true := by
                  have h := HA.out
                  rw [hT, HPS.out] at h; exact h
                have HC1 := Lib.hid (HCA.out hcalm)
                have HO1 : Hid (Vr.odd (fs.take (k + 1)) = OD ++ oddTo f PS) := Lib.hid (by rw [HOS.out, ← HOD.out, HPS.out]; rfl)
                clear hT hcalm hR8 hW8
                go_wp2_with fail
                go_roundw
                case rel => exact ⟨k + 1, by omega, by go_num, by rw [HO1.out]; exact hB8, HC1⟩
                case measure => simp [intOf]; omega
      · have hT : fs.take k = fs := List.take_of_length_le (by have := HN.out; omega)
        rw [hT] at hB
        have hcalm : fs.all Vr.calmF = true := by have h := HC.out; rw [hT] at h; exact h
        have HCM := Lib.hid hcalm
        obtain ⟨wo, hwo⟩ : ∃ wo, wo = wr := ⟨_, rfl⟩
        subst hwo
        clear hT hcalm HC
        go_wp2_with fail
        go_loopw [16] (fun i wr => ∃ j : Nat, j ≤ q ∧ i = .int .i64 j ∧ Below wo.heap.size wo wr ∧ Hid (∀ l ∈ X.take j, Oct.lower m.1 ≠ l)) (fun i _ => q - (intOf i).toNat)
        case atStart => exact ⟨0, by omega, rfl, Below.refl _ _, Lib.hid (by simp)⟩
        case round =>
          obtain ⟨j, hj, rfl, hbo, HL⟩ := hrel
          have hb3r := hbr.trans (hbo.mono hbr.size)
          have hbwr := hb3.trans (hb3r.mono hb3.size)
          obtain ⟨x1, y1⟩ := HBX.out wr (hb3x.trans (hb3r.mono hb3x.size))
          by_cases hjq : j < q
          · have jx : j < X.length := by have := HQ.out; omega
            obtain ⟨bx, ox, hbx, hbl, hcc⟩ := HCX.out.resolve_left (fun e => by have h := HQ.out; rw [e] at h; simp at h; omega)
            subst hbx
            have c1 := (hb3r.cell (p := ⟨bx, ox + j, none⟩) hbl).trans (hcc j jx)
            have a1 := fun (p : LateOf wr) => p.cell x1
            have a2 := fun (p : LateOf wr) => p.cell c1
            have cL1 := fun (p : LateOf wr) => late p (cLx p.w)
            by_cases he : Oct.lower m.1 = X[j]
            · have cM := fun (w1 : World) (h : Below wr.heap.size wr w1) => HM1.out HCM.out _ u9 w1 (HS7.out.later (hb3r.trans (h.mono hb3r.size))) (hbwr.trans (h.mono hbwr.size)) ((hB.after (hbo.trans (h.mono hbo.size))).fin)
              rw [← he] at a2
              generalize str (Oct.lower m.1) = LX at *
              clear he x1 y1 c1 hcc
              go_upto_region 31 with fail
              refine wp_region_late (by kernel_rfl) (by kernel_rfl) ?_
              quiet_step (fail)
              quiet_step (fail)
              quiet_step (exact cL1 _)
              quiet_step (fail)
              quiet_step (fail)
              quiet_step (fail)
              quiet_step (fail)
              quiet_step (fail)
              refine wpQuiet_nil ?_
              intro w2 hw'
              have hb2 : Below wr.heap.size wr w2 := by obtain ⟨p, rfl⟩ := hw'; exact p.h
              have cM2 := cM w2 hb2
              clear cM a1 a2 cL1 hw'
              go_wp2_with fail
              refine cM2.mono ?_
              rintro e w4 ⟨rfl, hb4⟩
              go_wp2_with fail
              go_ret
              have hbz := hbwr.trans (hb2.mono hbwr.size)
              exact ⟨rfl, hbz.trans (hb4.mono hbz.size)⟩
            · have hne : ((str (Oct.lower m.1)).toList == (str X[j]).toList) = false := by rw [str_toList, str_toList]; exact beq_eq_false_iff_ne.2 he
              have HL1 : Hid (∀ l ∈ X.take (j + 1), Oct.lower m.1 ≠ l) := Lib.hid (fun l hl => by
                rw [List.take_succ_eq_append_getElem jx] at hl
                rcases List.mem_append.1 hl with hl | hl
                · exact HL.out l hl
                · rw [List.mem_singleton.1 hl]; exact he)
              generalize str (Oct.lower m.1) = LX at *
              generalize str X[j] = XS at *
              clear he x1 y1 c1 hcc
              go_upto_region 31 with fail
              refine wp_region_late (by kernel_rfl) (by kernel_rfl) ?_
              quiet_step (fail)
              quiet_step (fail)
              quiet_step (exact cL1 _)
              quiet_step (fail)
              quiet_step (fail)
              quiet_step (fail)
              quiet_step (fail)
              quiet_step (fail)
              refine wpQuiet_nil ?_
              intro w2 hw'
              have hb2 : Below wr.heap.size wr w2 := by obtain ⟨p, rfl⟩ := hw'; exact p.h
              clear a1 a2 cL1 hw'
              go_wp2_with fail
              go_roundw
              case rel => exact ⟨j + 1, by omega, by go_num, hbo.trans (hb2.mono hbo.size), HL1⟩
              case measure => simp [intOf]; omega
          · have hT : X.take j = X := List.take_of_length_le (by have := HQ.out; omega)
            have hlx : ∀ l ∈ X, Oct.lower m.1 ≠ l := by have h := HL.out; rw [hT] at h; exact h
            have hBr := hB.after hbo
            have hol9 : (Vr.odd fs).length ≤ 1000000000 := Nat.le_trans HOL.out (by decide)
            have HM3 := Lib.hid (HM2.out HCM.out hlx)
            clear hT hlx
            go_wp2_with (at_builtin; refine appF2 hBr m hol9 rfl _ _ rfl x y HX.out HY.out rfl rfl ?_; intro v9 w6 hB6 hK6)
            have hbz := hb3.trans (hB6.2.mono hb3.size)
            have cM := HM3.out _ v9 w6 (HS7.out.later hB6.2) hbz hB6.fin
            refine cM.mono ?_
            rintro e w7 ⟨rfl, hb7⟩
            go_wp2_with fail
            go_ret
            exact ⟨rfl, hbz.trans (hb7.mono hbz.size)⟩
end Go.Proofs.YtelndkglimkfeaaDoor
