/- The document's map in memory: Commit, Abort. -/
import Derived.Test.YtgfgafondiipoaaSpD1
namespace Go.Proofs.Ytgfgafondiipoaa
open Go.RowKit

theorem RD.facts {w : World} {q bs bw : Nat} {m : Sp.M} {n k s : Nat} {b : Bool} (h : RD w q bs bw m) (hn : m.length = n) (hk : k < n) (he : m[k]? = some (s, b)) :
    w.cell? ⟨q, 0, none⟩ = some (.slice (some ⟨bs, 0, none⟩) n n) ∧ w.cell? ⟨q, 1, none⟩ = some (.slice (some ⟨bw, 0, none⟩) n n) ∧ w.cell? ⟨bs, k, none⟩ = some (.int .i64 (s : Int)) ∧ w.frozen? ⟨bs, k, none⟩ = false ∧ w.cell? ⟨bw, k, none⟩ = some (.bool b) ∧ w.frozen? ⟨bw, k, none⟩ = false := by
  subst hn
  obtain ⟨h1, h2⟩ := List.getElem?_eq_some_iff.1 he
  have a := h.s k hk
  have c := h.t k hk
  rw [h2] at a c
  exact ⟨h.c0, h.c1, a.1, a.2, c.1, c.2⟩
theorem RD.putS {w : World} {q bs bw : Nat} {m : Sp.M} {n k s : Nat} {b : Bool} (h : RD w q bs bw m) (hn : m.length = n) (hk : k < n) (he : m[k]? = some (s, b)) (s' : Nat) (v : Int) (hv : v = s') :
    RD (w.setCell ⟨bs, k, none⟩ (.int .i64 v)) q bs bw (m.set k (s', b)) ∧ (m.set k (s', b)).length = n ∧ (m.set k (s', b))[k]? = some (s', b) := by
  subst hn
  obtain ⟨h1, h2⟩ := List.getElem?_eq_some_iff.1 he
  have := h.setS k hk s' v hv
  rw [h2] at this
  exact ⟨this, List.length_set, List.getElem?_set_self hk⟩
theorem RD.putW {w : World} {q bs bw : Nat} {m : Sp.M} {n k s : Nat} {b : Bool} (h : RD w q bs bw m) (hn : m.length = n) (hk : k < n) (he : m[k]? = some (s, b)) (b' : Bool) :
    RD (w.setCell ⟨bw, k, none⟩ (.bool b')) q bs bw (m.set k (s, b')) ∧ (m.set k (s, b')).length = n ∧ (m.set k (s, b'))[k]? = some (s, b') := by
  subst hn
  obtain ⟨h1, h2⟩ := List.getElem?_eq_some_iff.1 he
  have := h.setW k hk b'
  rw [h2] at this
  exact ⟨this, List.length_set, List.getElem?_set_self hk⟩
theorem tS {q bs bw : Nat} (w : World) (k : Nat) (v : Value) : Touch (RF q bs bw) w (w.setCell ⟨bs, k, none⟩ v) := Touch.cell (.inr (.inl rfl)) k v
theorem tW {q bs bw : Nat} (w : World) (k : Nat) (v : Value) : Touch (RF q bs bw) w (w.setCell ⟨bw, k, none⟩ v) := Touch.cell (.inr (.inr rfl)) k v
set_option maxHeartbeats 3200000 in
set_option maxRecDepth 100000 in
theorem rCommit_w (w : World) (q bs bw : Nat) (m : Sp.M) (h : RD w q bs bw m) :
    Calls Try.prog 21 #[.pointer (some ⟨q, 0, none⟩)] w fun e w' => e = .returned (.tuple #[]) ∧ RD w' q bs bw (Sp.commit m) ∧ Touch (RF q bs bw) w w' := by
  have H := Lib.hid h
  have hlen := h.len
  obtain ⟨n, hn⟩ : ∃ n, n = m.length := ⟨_, rfl⟩
  have HN := Lib.hid hn
  rw [← hn] at hlen
  clear h hn
  go_enter Try.func21, Try.ntmps21
  go_wp2_with fail
  go_loopw [2] (fun vi wr => ∃ k : Nat, k ≤ n ∧ vi = .int .i64 k ∧ Hid (RD wr q bs bw (upto Sp.done m k)) ∧ Hid (Touch (RF q bs bw) w wr)) (fun vi _ => n - (intOf vi).toNat)
  case atStart => exact ⟨0, Nat.zero_le _, rfl, H, Lib.hid (Touch.refl _ _)⟩
  case round =>
    obtain ⟨k, hk, rfl, R, T⟩ := hrel
    by_cases hlt : k < n
    · have hki : (k : Int) < n := by omega
      have hkm : k < m.length := by rw [← HN.out]; exact hlt
      have HL : Hid ((upto Sp.done m k).length = n) := Lib.hid (by rw [upto_length]; exact HN.out.symm)
      have HK : Hid ((upto Sp.done m k)[k]? = some m[k]) := Lib.hid (by obtain ⟨h1, h2⟩ := upto_at Sp.done m k hkm; rw [List.getElem?_eq_getElem h1, h2])
      have HS := Lib.hid (upto_set Sp.done m k hkm)
      generalize upto Sp.done m k = m0 at R HL HK HS
      generalize m[k] = c at HK HS
      obtain ⟨s, b⟩ := c
      clear hkm
      obtain ⟨i0, i1, i2, i3, i4, i5⟩ := R.out.facts HL.out hlt HK.out
      cases b with
      | true =>
        have P1 := Lib.hid (R.out.putS HL.out hlt HK.out 0 0 rfl)
        have T1 := Lib.hid (T.out.trans (tS wr k (.int .i64 0)))
        go_upto_region 5 with fail
        obtain ⟨i0, i1, i2, i3, i4, i5⟩ := P1.out.1.facts P1.out.2.1 hlt P1.out.2.2
        generalize wr.setCell _ _ = w1 at P1 T1 i0 i1 i2 i3 i4 i5 ⊢
        have P9 := Lib.hid (P1.out.1.putW P1.out.2.1 hlt P1.out.2.2 false)
        have T9 := Lib.hid (T1.out.trans (tW w1 k (.bool false)))
        go_wp2_with fail
        go_roundw
        case rel => exact ⟨k + 1, by omega, by go_num, Lib.hid (by rw [← HS.out]; have := P9.out.1; rw [List.set_set] at this; exact this), T9⟩
        case measure => simp [intOf]; omega
      | false =>
        by_cases hs : s = 2
        · subst hs
          have P1 := Lib.hid (R.out.putS HL.out hlt HK.out 1 1 rfl)
          have T1 := Lib.hid (T.out.trans (tS wr k (.int .i64 1)))
          go_upto_region 7 with fail
          obtain ⟨i0, i1, i2, i3, i4, i5⟩ := P1.out.1.facts P1.out.2.1 hlt P1.out.2.2
          generalize wr.setCell _ _ = w1 at P1 T1 i0 i1 i2 i3 i4 i5 ⊢
          have P9 := Lib.hid (P1.out.1.putW P1.out.2.1 hlt P1.out.2.2 false)
          have T9 := Lib.hid (T1.out.trans (tW w1 k (.bool false)))
          go_wp2_with fail
          go_roundw
          case rel => exact ⟨k + 1, by omega, by go_num, Lib.hid (by rw [← HS.out]; have := P9.out.1; rw [List.set_set] at this; exact this), T9⟩
          case measure => simp [intOf]; omega
        · have hsi : ¬ (s : Int) = 2 := by omega
          have P9 := Lib.hid (R.out.putW HL.out hlt HK.out false)
          have T9 := Lib.hid (T.out.trans (tW wr k (.bool false)))
          go_wp2_with fail
          go_roundw
          case rel => exact ⟨k + 1, by omega, by go_num, Lib.hid (by rw [← HS.out]; have := P9.out.1; rw [show Sp.done (s, false) = (s, false) from by unfold Sp.done; simp [hs]]; exact this), T9⟩
          case measure => simp [intOf]; omega
    · have hki : ¬ (k : Int) < n := by omega
      have HE : Hid (upto Sp.done m k = Sp.commit m) := Lib.hid (upto_all _ _ _ (by rw [← HN.out]; omega))
      rw [HE.out] at R
      have c0 := R.out.c0
      have hl2 : (Sp.commit m).length = n := by rw [Sp.commit_length]; exact HN.out.symm
      rw [hl2] at c0
      clear hl2 HE
      go_wp2_with fail
      go_end0
      exact ⟨rfl, R.out, T.out⟩
set_option maxHeartbeats 3200000 in
set_option maxRecDepth 100000 in
theorem rAbort_w (w : World) (q bs bw : Nat) (m : Sp.M) (h : RD w q bs bw m) :
    Calls Try.prog 23 #[.pointer (some ⟨q, 0, none⟩)] w fun e w' => e = .returned (.tuple #[]) ∧ RD w' q bs bw (Sp.abort m) ∧ Touch (RF q bs bw) w w' := by
  have H := Lib.hid h
  have hlen := h.len
  obtain ⟨n, hn⟩ : ∃ n, n = m.length := ⟨_, rfl⟩
  have HN := Lib.hid hn
  rw [← hn] at hlen
  clear h hn
  go_enter Try.func23, Try.ntmps23
  go_wp2_with fail
  go_loopw [2] (fun vi wr => ∃ k : Nat, k ≤ n ∧ vi = .int .i64 k ∧ Hid (RD wr q bs bw (upto Sp.off m k)) ∧ Hid (Touch (RF q bs bw) w wr)) (fun vi _ => n - (intOf vi).toNat)
  case atStart => exact ⟨0, Nat.zero_le _, rfl, H, Lib.hid (Touch.refl _ _)⟩
  case round =>
    obtain ⟨k, hk, rfl, R, T⟩ := hrel
    by_cases hlt : k < n
    · have hki : (k : Int) < n := by omega
      have hkm : k < m.length := by rw [← HN.out]; exact hlt
      have HL : Hid ((upto Sp.off m k).length = n) := Lib.hid (by rw [upto_length]; exact HN.out.symm)
      have HK : Hid ((upto Sp.off m k)[k]? = some m[k]) := Lib.hid (by obtain ⟨h1, h2⟩ := upto_at Sp.off m k hkm; rw [List.getElem?_eq_getElem h1, h2])
      have HS := Lib.hid (upto_set Sp.off m k hkm)
      generalize upto Sp.off m k = m0 at R HL HK HS
      generalize m[k] = c at HK HS
      obtain ⟨s, b⟩ := c
      clear hkm
      obtain ⟨i0, i1, i2, i3, i4, i5⟩ := R.out.facts HL.out hlt HK.out
      by_cases hs : s = 2
      · subst hs
        have P1 := Lib.hid (R.out.putS HL.out hlt HK.out 0 0 rfl)
        have T1 := Lib.hid (T.out.trans (tS wr k (.int .i64 0)))
        go_upto_region 5 with fail
        obtain ⟨i0, i1, i2, i3, i4, i5⟩ := P1.out.1.facts P1.out.2.1 hlt P1.out.2.2
        generalize wr.setCell _ _ = w1 at P1 T1 i0 i1 i2 i3 i4 i5 ⊢
        have P9 := Lib.hid (P1.out.1.putW P1.out.2.1 hlt P1.out.2.2 false)
        have T9 := Lib.hid (T1.out.trans (tW w1 k (.bool false)))
        go_wp2_with fail
        go_roundw
        case rel => exact ⟨k + 1, by omega, by go_num, Lib.hid (by rw [← HS.out]; have := P9.out.1; rw [List.set_set] at this; exact this), T9⟩
        case measure => simp [intOf]; omega
      · have hsi : ¬ (s : Int) = 2 := by omega
        have P9 := Lib.hid (R.out.putW HL.out hlt HK.out false)
        have T9 := Lib.hid (T.out.trans (tW wr k (.bool false)))
        go_wp2_with fail
        go_roundw
        case rel => exact ⟨k + 1, by omega, by go_num, Lib.hid (by rw [← HS.out]; have := P9.out.1; rw [show Sp.off (s, b) = (s, false) from by unfold Sp.off; rw [if_neg hs]]; exact this), T9⟩
        case measure => simp [intOf]; omega
    · have hki : ¬ (k : Int) < n := by omega
      have HE : Hid (upto Sp.off m k = Sp.abort m) := Lib.hid (upto_all _ _ _ (by rw [← HN.out]; omega))
      rw [HE.out] at R
      have c0 := R.out.c0
      have hl2 : (Sp.abort m).length = n := by rw [Sp.abort_length]; exact HN.out.symm
      rw [hl2] at c0
      clear hl2 HE
      go_wp2_with fail
      go_end0
      exact ⟨rfl, R.out, T.out⟩
end Go.Proofs.Ytgfgafondiipoaa
