/- The document's own answer for package target: a path without dots. -/
import Derived.Test.YtlikjfemkadciaaGreatDoorTg24
import Derived.Test.YtlikjfemkadciaaGreatDoorTgMathE
namespace Go.Proofs.YtlikjfemkadciaaGreatDoor
open Go.RowKit

theorem seg_facts (x : ByteArray) (X rest : List UInt8) (e : x.data.toList = 47 :: X ++ rest) (hX : ∀ c ∈ X, c ≠ 47) (hr : rest = [] ∨ ∃ r, rest = 47 :: r) :
    ∃ m, m = X.length + 1 ∧ x.size = m + rest.length ∧ (∀ k (hk : k < x.size), 1 ≤ k → k < m → x[k] ≠ 47) ∧ (∀ hk : m < x.size, x[m] = 47) ∧ x.extract 0 m = str (47 :: X) ∧ x.extract m x.size = str rest := by
  have hz : x.size = X.length + 1 + rest.length := by rw [Lib.size_eq, e]; simp; omega
  have hg : ∀ k (hk : k < x.size), (47 :: X ++ rest)[k]? = some x[k] := fun k hk => by rw [← e]; exact Lib.data_getElem? x k hk
  refine ⟨_, rfl, hz, ?_, ?_, ?_, ?_⟩
  · intro k hk h1 h2
    obtain ⟨j, rfl⟩ : ∃ j, k = j + 1 := ⟨k - 1, by omega⟩
    have h := hg (j + 1) hk
    rw [List.cons_append, List.getElem?_cons_succ, List.getElem?_append_left (by omega)] at h
    exact hX _ (List.mem_of_getElem? h)
  · intro hk
    have h := hg (X.length + 1) hk
    rw [List.cons_append, List.getElem?_cons_succ, List.getElem?_append_right (Nat.le_refl _), Nat.sub_self] at h
    rcases hr with rfl | ⟨r, rfl⟩
    · cases h
    · exact (Option.some.inj h).symm
  · refine str_same ?_
    rw [Lib.extract_data, e]
    simp
  · refine str_same ?_
    rw [Lib.extract_data, e, List.take_of_length_le (by simp; omega)]
    simp
theorem last_facts (y : ByteArray) (o z : List UInt8) (e : y.data.toList = o ++ 47 :: z) (hzz : ∀ c ∈ z, c ≠ 47) :
    ∃ q, q = o.length ∧ y.size = q + 1 + z.length ∧ (∀ k (hk : k < y.size), q < k → y[k] ≠ 47) ∧ (∀ hk : q < y.size, y[q] = 47) ∧ y.extract 0 q = str o := by
  have hz : y.size = o.length + 1 + z.length := by rw [Lib.size_eq, e]; simp; omega
  have hg : ∀ k (hk : k < y.size), (o ++ 47 :: z)[k]? = some y[k] := fun k hk => by rw [← e]; exact Lib.data_getElem? y k hk
  refine ⟨_, rfl, hz, ?_, ?_, ?_⟩
  · intro k hk h1
    obtain ⟨j, rfl⟩ : ∃ j, k = o.length + 1 + j := ⟨k - o.length - 1, by omega⟩
    have h := hg _ hk
    rw [List.getElem?_append_right (by omega), show o.length + 1 + j - o.length = j + 1 by omega, List.getElem?_cons_succ] at h
    exact hzz _ (List.mem_of_getElem? h)
  · intro hk
    have h := hg _ hk
    rw [List.getElem?_append_right (Nat.le_refl _), Nat.sub_self] at h
    exact (Option.some.inj h).symm
  · refine str_same ?_
    rw [Lib.extract_data, e]
    simp
/-- How long a text is. -/
def strSz : Value → Nat
  | .string x => x.size
  | _ => 0
theorem list_ne {a : ByteArray} {l : List UInt8} (h : a.data.toList ≠ l) : ¬ a.toList = l ∧ (a.toList == l) = false ∧ (a.toList != l) = true := by
  rw [Lib.toList_data]
  have h2 : (a.data.toList == l) = false := beq_eq_false_iff_ne.2 h
  exact ⟨h, h2, by rw [bne, h2]; rfl⟩

set_option maxHeartbeats 6400000 in
set_option maxRecDepth 100000 in
theorem rdots_s (t : List UInt8) (w : World) (ht : t.length ≤ 100000) :
    Calls Tryz.prog 67 #[.string (str (47 :: t))] w fun e w' => e = .returned (.string (str (Tg.straight (47 :: t)))) ∧ w = w' := by
  obtain ⟨R, hR⟩ : ∃ R, R = Tg.straight (47 :: t) := ⟨_, rfl⟩
  have h0 := Tg.Steps.start t
  rw [← hR] at h0 ⊢
  have HS0 : Hid (Tg.Steps R (str (47 :: t)).data.toList (⟨#[]⟩ : ByteArray).data.toList) := by rw [str_list]; exact Lib.hid h0
  have hz0 : (str (47 :: t)).size + (⟨#[]⟩ : ByteArray).size ≤ 100001 := by
    rw [str_size]
    have h2 : (⟨#[]⟩ : ByteArray).size = 0 := rfl
    rw [h2]; simp; omega
  generalize str (47 :: t) = s at *
  clear hR h0 ht
  go_enter Tryz.func67, Tryz.ntmps67
  go_wp2_with fail
  go_loop [0, 3] (fun a b => ∃ x y : ByteArray, a = .string x ∧ b = .string y ∧ x.size + y.size ≤ 100001 ∧ Hid (Tg.Steps R x.data.toList y.data.toList)) (fun a _ => strSz a)
  case atStart => exact ⟨s, ⟨#[]⟩, rfl, rfl, hz0, HS0⟩
  case round =>
    obtain ⟨x, y, rfl, rfl, hz, HI⟩ := hrel
    by_cases hx : x.data.toList = []
    · have hx2 : x = ⟨#[]⟩ := str_same hx
      have HR : Hid (str R = y) := by
        have h := HI.out
        rw [hx] at h
        exact Lib.hid (str_same h.done).symm
      subst hx2
      clear hx HI
      go_wp2_with fail
      go_ret
      exact ⟨by rw [HR.out]; rfl, rfl⟩
    · obtain ⟨X, rest, e1, hX, hrest, c1, c2, c3⟩ := HI.out.next hx
      obtain ⟨m, hm, f1, f2, f3, f4, f5⟩ := seg_facts x X rest e1 hX hrest
      have hm1 : 1 ≤ m := by omega
      have hmx : m ≤ x.size := by omega
      have hxs : x.size ≤ 100001 := by omega
      have hys : y.size ≤ 100001 := by omega
      obtain ⟨nx1, nx2, nx3⟩ := list_ne hx
      have HLT : Hid (rest.length < x.size) := Lib.hid (by omega)
      have HSUM : Hid (m + rest.length + y.size ≤ 100001) := Lib.hid (by omega)
      have hmi : (m : Int) ≤ x.size := by omega
      have hm0 : (0 : Int) ≤ m := by omega
      have F2 := Lib.hid f2
      have F3 := Lib.hid f3
      clear f2 f3 hx HI hz e1 hX
      by_cases hre : rest = []
      · obtain rfl := hre
        have eI : x.extract m x.size = ⟨#[]⟩ := f5
        have hxm : x.size = m := by simpa using f1
        have HI2 : Hid ((⟨#[]⟩ : ByteArray).data.toList = []) := Lib.hid rfl
        have HLEN : Hid ((⟨#[]⟩ : ByteArray).size < x.size) := Lib.hid (by show 0 < _; omega)
        have hI0 : (⟨#[]⟩ : ByteArray).size = 0 := rfl
        obtain ⟨I, hIe⟩ : ∃ I : ByteArray, I = ⟨#[]⟩ := ⟨_, rfl⟩
        clear f5 hrest
        by_cases hd : X = [46]
        · have eS : x.extract 0 m = ⟨#[47, 46]⟩ := by rw [f4, hd]; rfl
          have m2 : m = 2 := by rw [hm, hd]; rfl
          have HN : Hid (Tg.Steps R (⟨#[]⟩ : ByteArray).data.toList (y ++ ⟨#[47]⟩ : ByteArray).data.toList) := by rw [app_data]; exact Lib.hid ((c2 hd).1 rfl)
          have HZ : Hid ((⟨#[]⟩ : ByteArray).size + (y ++ ⟨#[47]⟩ : ByteArray).size ≤ 100001) := Lib.hid (by rw [ByteArray.size_append]; have h9 := HSUM.out; show 0 + (y.size + 1) ≤ _; simp at h9; omega)
          clear c1 c2 c3 hd hm f1 f4 m2
          go_wp2_with fail
          go_loop [4] (fun i => ∃ k : Nat, 1 ≤ k ∧ k ≤ m ∧ i = .int .i64 k) (fun i => m - (intOf i).toNat)
          case atStart => exact ⟨1, by omega, hm1, rfl⟩
          case round =>
            obtain ⟨k, hk1, hkm, rfl⟩ := hrel
            by_cases hlt : k < m
            · have hkx : k < x.size := by omega
              have hki : (k : Int) < x.size := by omega
              have hk0 : (0 : Int) ≤ k := by omega
              have b1 := ne8 x[k] 47 47 rfl (F2.out k hkx hk1 hlt)
              go_wp2_with fail
              go_round
              case rel => exact ⟨k + 1, by omega, by omega, by go_num⟩
              case measure => simp [intOf]; omega
            · obtain rfl : k = m := by omega
              have hnl : ¬ ((k : Int) < x.size) := by omega
              go_wp2_with fail
              go_round
              case rel => exact ⟨_, (y ++ (⟨#[47]⟩ : ByteArray) : ByteArray), rfl, rfl, HZ.out, HN⟩
              case measure => exact HLEN.out
        · have hdot := hd
          clear hd
          by_cases hd : X = [46, 46]
          · have eS : x.extract 0 m = ⟨#[47, 46, 46]⟩ := by rw [f4, hd]; rfl
            have m3 : m = 3 := by rw [hm, hd]; rfl
            rcases c3 hd with ⟨ho, d1, d2⟩ | ⟨o, z, ho, hz2, d1, d2⟩
            · clear m3 c3
              have hy0 : y.size = 0 := by rw [Lib.size_eq, ho]; rfl
              have HN : Hid (Tg.Steps R (⟨#[]⟩ : ByteArray).data.toList (y ++ ⟨#[47]⟩ : ByteArray).data.toList) := by rw [app_data, ho]; exact Lib.hid (d1 rfl)
              have HZ : Hid ((⟨#[]⟩ : ByteArray).size + (y ++ ⟨#[47]⟩ : ByteArray).size ≤ 100001) := Lib.hid (by rw [ByteArray.size_append]; show 0 + (y.size + 1) ≤ _; omega)
              clear c1 c2 d1 d2 hd hm f1 f4 ho
              go_wp2_with fail
              go_loop [4] (fun i => ∃ k : Nat, 1 ≤ k ∧ k ≤ m ∧ i = .int .i64 k) (fun i => m - (intOf i).toNat)
              case atStart => exact ⟨1, by omega, hm1, rfl⟩
              case round =>
                obtain ⟨k, hk1, hkm, rfl⟩ := hrel
                by_cases hlt : k < m
                · have hkx : k < x.size := by omega
                  have hki : (k : Int) < x.size := by omega
                  have hk0 : (0 : Int) ≤ k := by omega
                  have b1 := ne8 x[k] 47 47 rfl (F2.out k hkx hk1 hlt)
                  go_wp2_with fail
                  go_round
                  case rel => exact ⟨k + 1, by omega, by omega, by go_num⟩
                  case measure => simp [intOf]; omega
                · obtain rfl : k = m := by omega
                  have hnl : ¬ ((k : Int) < x.size) := by omega
                  go_wp2_with fail
                  refine wp_loop_rounds 1 ?_
                  rw [rounds_succ]
                  go_wp2_with fail
                  go_round
                  case rel => exact ⟨_, (y ++ (⟨#[47]⟩ : ByteArray) : ByteArray), rfl, rfl, HZ.out, HN⟩
                  case measure => exact HLEN.out
            · clear c3
              obtain ⟨q, hq, g1, g2, g3, g4⟩ := last_facts y o z ho hz2
              obtain ⟨O, hO⟩ : ∃ O : ByteArray, O = str o := ⟨_, rfl⟩
              rw [← hO] at g4
              have hOz : O.size = q := by rw [hO, str_size, hq]
              have hOd : O.data.toList = o := by rw [hO, str_list]
              have hqy : q < y.size := by omega
              have hqi : (q : Int) < y.size := by omega
              have hq0 : (0 : Int) ≤ q := by omega
              have G2 := Lib.hid g2
              have iq : (y[q].toNat : Int) = 47 := by rw [g3 hqy]; rfl
              have HN : Hid (Tg.Steps R (⟨#[]⟩ : ByteArray).data.toList (O ++ ⟨#[47]⟩ : ByteArray).data.toList) := by rw [app_data, hOd]; exact Lib.hid (d1 rfl)
              have HZ : Hid ((⟨#[]⟩ : ByteArray).size + (O ++ ⟨#[47]⟩ : ByteArray).size ≤ 100001) := Lib.hid (by rw [ByteArray.size_append]; show 0 + (O.size + 1) ≤ _; omega)
              have hOs : O.size ≤ 100001 := by omega
              clear m3 c1 c2 d1 d2 hd hm f1 f4 ho hz2 g1 g2 g3 hO hOd hq hOz
              go_wp2_with fail
              go_loop [4] (fun i => ∃ k : Nat, 1 ≤ k ∧ k ≤ m ∧ i = .int .i64 k) (fun i => m - (intOf i).toNat)
              case atStart => exact ⟨1, by omega, hm1, rfl⟩
              case round =>
                obtain ⟨k, hk1, hkm, rfl⟩ := hrel
                by_cases hlt : k < m
                · have hkx : k < x.size := by omega
                  have hki : (k : Int) < x.size := by omega
                  have hk0 : (0 : Int) ≤ k := by omega
                  have b1 := ne8 x[k] 47 47 rfl (F2.out k hkx hk1 hlt)
                  go_wp2_with fail
                  go_round
                  case rel => exact ⟨k + 1, by omega, by omega, by go_num⟩
                  case measure => simp [intOf]; omega
                · obtain rfl : k = m := by omega
                  have hnl : ¬ ((k : Int) < x.size) := by omega
                  go_wp2_with fail
                  go_loop [6] (fun i => ∃ j : Nat, q ≤ j ∧ j < y.size ∧ i = .int .i64 ((j : Int) + 1)) (fun i => (intOf i).toNat)
                  case atStart => exact ⟨y.size - 1, by omega, by omega, by congr 1; omega⟩
                  case round =>
                    obtain ⟨j, hqj, hjy, rfl⟩ := hrel
                    have hj1 : (0 : Int) < (j : Int) + 1 := by omega
                    have hj2 : (j : Int) < y.size := by omega
                    have hj3 : (0 : Int) ≤ (j : Int) := by omega
                    have hw1 : IntKind.i64.wrap ((j : Int) + 1 - 1) = (j : Int) := by rw [IntKind.wrap_i64]; omega
                    have hw2 : IntKind.i64.wrap (j : Int) = (j : Int) := by rw [IntKind.wrap_i64]; omega
                    by_cases hlt : q < j
                    · have b2 := ne8 y[j] 47 47 rfl (G2.out j hjy hlt)
                      obtain ⟨p, rfl⟩ : ∃ p, j = p + 1 := ⟨j - 1, by omega⟩
                      go_wp2_with fail
                      go_round
                      case rel => exact ⟨p, by omega, by omega, by go_num⟩
                      case measure => simp [intOf]; omega
                    · obtain rfl : j = q := by omega
                      go_wp2_with fail
                      go_round
                      case rel => exact ⟨_, (O ++ (⟨#[47]⟩ : ByteArray) : ByteArray), rfl, rfl, HZ.out, HN⟩
                      case measure => exact HLEN.out
          · have hdd := hd
            clear hd
            have hd := hdot
            clear hdot
            obtain ⟨S, hS⟩ : ∃ S : ByteArray, S = str (47 :: X) := ⟨_, rfl⟩
            have eS : x.extract 0 m = S := by rw [f4, hS]
            have hSd : S.data.toList = 47 :: X := by rw [hS, str_list]
            have hSz : S.size = m := by rw [hS, str_size, hm]; rfl
            obtain ⟨nS1, nS2, nS3⟩ := list_ne (a := S) (l := [47, 46]) (by rw [hSd]; intro e; exact hd (List.cons.inj e).2)
            obtain ⟨nT1, nT2, nT3⟩ := list_ne (a := S) (l := [47, 46, 46]) (by rw [hSd]; intro e; exact hdd (List.cons.inj e).2)
            have HN : Hid (Tg.Steps R (⟨#[]⟩ : ByteArray).data.toList (y ++ S : ByteArray).data.toList) := by rw [app_data, hSd]; exact Lib.hid (c1 hd hdd)
            have HZ : Hid ((⟨#[]⟩ : ByteArray).size + (y ++ S : ByteArray).size ≤ 100001) := Lib.hid (by rw [ByteArray.size_append]; have h9 := HSUM.out; simp at h9; show 0 + _ ≤ _; omega)
            have hSs : S.size ≤ 100001 := by omega
            clear c1 c2 c3 hd hdd hm f1 f4 hS hSd hSz
            go_wp2_with fail
            go_loop [4] (fun i => ∃ k : Nat, 1 ≤ k ∧ k ≤ m ∧ i = .int .i64 k) (fun i => m - (intOf i).toNat)
            case atStart => exact ⟨1, by omega, hm1, rfl⟩
            case round =>
              obtain ⟨k, hk1, hkm, rfl⟩ := hrel
              by_cases hlt : k < m
              · have hkx : k < x.size := by omega
                have hki : (k : Int) < x.size := by omega
                have hk0 : (0 : Int) ≤ k := by omega
                have b1 := ne8 x[k] 47 47 rfl (F2.out k hkx hk1 hlt)
                go_wp2_with fail
                go_round
                case rel => exact ⟨k + 1, by omega, by omega, by go_num⟩
                case measure => simp [intOf]; omega
              · obtain rfl : k = m := by omega
                have hnl : ¬ ((k : Int) < x.size) := by omega
                go_wp2_with fail
                go_round
                case rel => exact ⟨_, y ++ S, rfl, rfl, HZ.out, HN⟩
                case measure => exact HLEN.out
      · have f5' := f5
        obtain ⟨I, hI⟩ : ∃ I : ByteArray, I = str rest := ⟨_, rfl⟩
        rw [← hI] at f5
        have eI : x.extract m x.size = I := f5
        have hId : I.data.toList = rest := by rw [hI, str_list]
        have hxm : m < x.size := by
          rw [f1]
          cases rest with
          | nil => exact absurd rfl hre
          | cons a b => simp
        have hIz : I.size = rest.length := by rw [hI, str_size]
        have HLEN : Hid (I.size < x.size) := Lib.hid (by rw [hIz]; exact HLT.out)
        obtain ⟨nI1, nI2, nI3⟩ := list_ne (a := I) (l := []) (by rw [hId]; exact hre)
        clear f5 f5' hrest hI
        by_cases hd : X = [46]
        · have eS : x.extract 0 m = ⟨#[47, 46]⟩ := by rw [f4, hd]; rfl
          have m2 : m = 2 := by rw [hm, hd]; rfl
          have HN : Hid (Tg.Steps R I.data.toList y.data.toList) := by rw [hId]; exact Lib.hid ((c2 hd).2 hre)
          have HZ : Hid (I.size + y.size ≤ 100001) := Lib.hid (by have h9 := HSUM.out; omega)
          clear c1 c2 c3 hd hm f1 f4 m2
          go_wp2_with fail
          go_loop [4] (fun i => ∃ k : Nat, 1 ≤ k ∧ k ≤ m ∧ i = .int .i64 k) (fun i => m - (intOf i).toNat)
          case atStart => exact ⟨1, by omega, hm1, rfl⟩
          case round =>
            obtain ⟨k, hk1, hkm, rfl⟩ := hrel
            by_cases hlt : k < m
            · have hkx : k < x.size := by omega
              have hki : (k : Int) < x.size := by omega
              have hk0 : (0 : Int) ≤ k := by omega
              have b1 := ne8 x[k] 47 47 rfl (F2.out k hkx hk1 hlt)
              go_wp2_with fail
              go_round
              case rel => exact ⟨k + 1, by omega, by omega, by go_num⟩
              case measure => simp [intOf]; omega
            · obtain rfl : k = m := by omega
              have hkx : k < x.size := by omega
              have hki : (k : Int) < x.size := by omega
              have i47 : (x[k].toNat : Int) = 47 := by rw [F3.out hkx]; rfl
              go_wp2_with fail
              go_round
              case rel => exact ⟨_, y, rfl, rfl, HZ.out, HN⟩
              case measure => exact HLEN.out
        · have hdot := hd
          clear hd
          by_cases hd : X = [46, 46]
          · have eS : x.extract 0 m = ⟨#[47, 46, 46]⟩ := by rw [f4, hd]; rfl
            have m3 : m = 3 := by rw [hm, hd]; rfl
            rcases c3 hd with ⟨ho, d1, d2⟩ | ⟨o, z, ho, hz2, d1, d2⟩
            · clear m3 c3
              have hy0 : y.size = 0 := by rw [Lib.size_eq, ho]; rfl
              have HN : Hid (Tg.Steps R I.data.toList y.data.toList) := by rw [hId, ho]; exact Lib.hid (d2 hre)
              have HZ : Hid (I.size + y.size ≤ 100001) := Lib.hid (by have h9 := HSUM.out; omega)
              clear c1 c2 d1 d2 hd hm f1 f4 ho
              go_wp2_with fail
              go_loop [4] (fun i => ∃ k : Nat, 1 ≤ k ∧ k ≤ m ∧ i = .int .i64 k) (fun i => m - (intOf i).toNat)
              case atStart => exact ⟨1, by omega, hm1, rfl⟩
              case round =>
                obtain ⟨k, hk1, hkm, rfl⟩ := hrel
                by_cases hlt : k < m
                · have hkx : k < x.size := by omega
                  have hki : (k : Int) < x.size := by omega
                  have hk0 : (0 : Int) ≤ k := by omega
                  have b1 := ne8 x[k] 47 47 rfl (F2.out k hkx hk1 hlt)
                  go_wp2_with fail
                  go_round
                  case rel => exact ⟨k + 1, by omega, by omega, by go_num⟩
                  case measure => simp [intOf]; omega
                · obtain rfl : k = m := by omega
                  have hkx : k < x.size := by omega
                  have hki : (k : Int) < x.size := by omega
                  have i47 : (x[k].toNat : Int) = 47 := by rw [F3.out hkx]; rfl
                  go_wp2_with fail
                  refine wp_loop_rounds 1 ?_
                  rw [rounds_succ]
                  go_wp2_with fail
                  go_round
                  case rel => exact ⟨_, y, rfl, rfl, HZ.out, HN⟩
                  case measure => exact HLEN.out
            · clear c3
              obtain ⟨q, hq, g1, g2, g3, g4⟩ := last_facts y o z ho hz2
              obtain ⟨O, hO⟩ : ∃ O : ByteArray, O = str o := ⟨_, rfl⟩
              rw [← hO] at g4
              have hOz : O.size = q := by rw [hO, str_size, hq]
              have hOd : O.data.toList = o := by rw [hO, str_list]
              have hqy : q < y.size := by omega
              have hqi : (q : Int) < y.size := by omega
              have hq0 : (0 : Int) ≤ q := by omega
              have G2 := Lib.hid g2
              have iq : (y[q].toNat : Int) = 47 := by rw [g3 hqy]; rfl
              have HN : Hid (Tg.Steps R I.data.toList O.data.toList) := by rw [hId, hOd]; exact Lib.hid (d2 hre)
              have HZ : Hid (I.size + O.size ≤ 100001) := Lib.hid (by have h9 := HSUM.out; omega)
              have hOs : O.size ≤ 100001 := by omega
              clear m3 c1 c2 d1 d2 hd hm f1 f4 ho hz2 g1 g2 g3 hO hOd hq hOz
              go_wp2_with fail
              go_loop [4] (fun i => ∃ k : Nat, 1 ≤ k ∧ k ≤ m ∧ i = .int .i64 k) (fun i => m - (intOf i).toNat)
              case atStart => exact ⟨1, by omega, hm1, rfl⟩
              case round =>
                obtain ⟨k, hk1, hkm, rfl⟩ := hrel
                by_cases hlt : k < m
                · have hkx : k < x.size := by omega
                  have hki : (k : Int) < x.size := by omega
                  have hk0 : (0 : Int) ≤ k := by omega
                  have b1 := ne8 x[k] 47 47 rfl (F2.out k hkx hk1 hlt)
                  go_wp2_with fail
                  go_round
                  case rel => exact ⟨k + 1, by omega, by omega, by go_num⟩
                  case measure => simp [intOf]; omega
                · obtain rfl : k = m := by omega
                  have hkx : k < x.size := by omega
                  have hki : (k : Int) < x.size := by omega
                  have i47 : (x[k].toNat : Int) = 47 := by rw [F3.out hkx]; rfl
                  go_wp2_with fail
                  go_loop [6] (fun i => ∃ j : Nat, q ≤ j ∧ j < y.size ∧ i = .int .i64 ((j : Int) + 1)) (fun i => (intOf i).toNat)
                  case atStart => exact ⟨y.size - 1, by omega, by omega, by congr 1; omega⟩
                  case round =>
                    obtain ⟨j, hqj, hjy, rfl⟩ := hrel
                    have hj1 : (0 : Int) < (j : Int) + 1 := by omega
                    have hj2 : (j : Int) < y.size := by omega
                    have hj3 : (0 : Int) ≤ (j : Int) := by omega
                    have hw1 : IntKind.i64.wrap ((j : Int) + 1 - 1) = (j : Int) := by rw [IntKind.wrap_i64]; omega
                    have hw2 : IntKind.i64.wrap (j : Int) = (j : Int) := by rw [IntKind.wrap_i64]; omega
                    by_cases hlt : q < j
                    · have b2 := ne8 y[j] 47 47 rfl (G2.out j hjy hlt)
                      obtain ⟨p, rfl⟩ : ∃ p, j = p + 1 := ⟨j - 1, by omega⟩
                      go_wp2_with fail
                      go_round
                      case rel => exact ⟨p, by omega, by omega, by go_num⟩
                      case measure => simp [intOf]; omega
                    · obtain rfl : j = q := by omega
                      go_wp2_with fail
                      go_round
                      case rel => exact ⟨_, O, rfl, rfl, HZ.out, HN⟩
                      case measure => exact HLEN.out
          · have hdd := hd
            clear hd
            have hd := hdot
            clear hdot
            obtain ⟨S, hS⟩ : ∃ S : ByteArray, S = str (47 :: X) := ⟨_, rfl⟩
            have eS : x.extract 0 m = S := by rw [f4, hS]
            have hSd : S.data.toList = 47 :: X := by rw [hS, str_list]
            have hSz : S.size = m := by rw [hS, str_size, hm]; rfl
            obtain ⟨nS1, nS2, nS3⟩ := list_ne (a := S) (l := [47, 46]) (by rw [hSd]; intro e; exact hd (List.cons.inj e).2)
            obtain ⟨nT1, nT2, nT3⟩ := list_ne (a := S) (l := [47, 46, 46]) (by rw [hSd]; intro e; exact hdd (List.cons.inj e).2)
            have HN : Hid (Tg.Steps R I.data.toList (y ++ S : ByteArray).data.toList) := by rw [app_data, hSd]; rw [hId]; exact Lib.hid (c1 hd hdd)
            have HZ : Hid (I.size + (y ++ S : ByteArray).size ≤ 100001) := Lib.hid (by rw [ByteArray.size_append]; have h9 := HSUM.out; omega)
            have hSs : S.size ≤ 100001 := by omega
            clear c1 c2 c3 hd hdd hm f1 f4 hS hSd hSz
            go_wp2_with fail
            go_loop [4] (fun i => ∃ k : Nat, 1 ≤ k ∧ k ≤ m ∧ i = .int .i64 k) (fun i => m - (intOf i).toNat)
            case atStart => exact ⟨1, by omega, hm1, rfl⟩
            case round =>
              obtain ⟨k, hk1, hkm, rfl⟩ := hrel
              by_cases hlt : k < m
              · have hkx : k < x.size := by omega
                have hki : (k : Int) < x.size := by omega
                have hk0 : (0 : Int) ≤ k := by omega
                have b1 := ne8 x[k] 47 47 rfl (F2.out k hkx hk1 hlt)
                go_wp2_with fail
                go_round
                case rel => exact ⟨k + 1, by omega, by omega, by go_num⟩
                case measure => simp [intOf]; omega
              · obtain rfl : k = m := by omega
                have hkx : k < x.size := by omega
                have hki : (k : Int) < x.size := by omega
                have i47 : (x[k].toNat : Int) = 47 := by rw [F3.out hkx]; rfl
                go_wp2_with fail
                go_round
                case rel => exact ⟨_, y ++ S, rfl, rfl, HZ.out, HN⟩
                case measure => exact HLEN.out
end Go.Proofs.YtlikjfemkadciaaGreatDoor
