/- The document's own answer for package target: octets made normal. -/
import Derived.Test.YtlikjfemkadciaaGreatDoorTg22
import Derived.Test.YtlikjfemkadciaaGreatDoorTail
import Derived.Deep.RegionHeld3
namespace Go.Proofs.YtlikjfemkadciaaGreatDoor
open Go.RowKit

/-- 'append(b, c1, c2, c3)': the octets lie in a new block, the last one. -/
theorem app3 {o : Oper} {a : Act} {K : Act → World → Prop} {Q : Exit → Act → World → Prop} {W w : World} {v : Value} {l : List UInt8} (h : Buf W w v l) (c1 c2 c3 : UInt8) (hlen : l.length ≤ 100000000)
    (s x : Operand) (ho : o.op = .call { callee := .builtin .append, args := #[s, x], argTypes := #[51, 51] })
    (n1 n2 n3 : Int) (h1 : n1 = c1.toNat) (h2 : n2 = c2.toNat) (h3 : n3 = c3.toNat) (hs : a.eval s = v) (hx : a.eval x = .slice (some ⟨w.heap.size, 0, none⟩) 3 3)
    (hK : ∀ v' w', Buf W w' v' (l ++ [c1, c2, c3]) → K (a.put o.dst v') w') : o.wp Tryz.prog a (w.alloc (.cells #[.int .u8 n1, .int .u8 n2, .int .u8 n3] 5)) K Q := by
  obtain ⟨i0, hi, hz0, hz1, hz2⟩ := info_parts bytes_info
  have hA := h.alloc (.cells #[.int .u8 n1, .int .u8 n2, .int .u8 n3] 5)
  refine wp_append_own _ s x _ ho W.heap.size 5 i0 (.int .u8 0) 1 1 Tryz.underlying51 hi hz0 hz1 hz2 rfl (by decide) v l.length (Lib.byteCells l) hs hA.1 ⟨w.heap.size, 0, none⟩ 3 3 [.int .u8 n1, .int .u8 n2, .int .u8 n3] hx rfl ?_ ?_ (by unfold maxLen; omega) (by omega) hA.2.size (fun v' w' h1' h2' _ => ?_)
  · intro j u hj
    match j, hj with
    | 0, hj =>
      simp at hj; subst hj
      show (w.alloc (.cells #[.int .u8 n1, .int .u8 n2, .int .u8 n3] 5)).cell? ⟨w.heap.size, 0 + 0, none⟩ = _
      rw [World.cell?_alloc_at _ _ _ _ rfl]; rfl
    | 1, hj =>
      simp at hj; subst hj
      show (w.alloc (.cells #[.int .u8 n1, .int .u8 n2, .int .u8 n3] 5)).cell? ⟨w.heap.size, 0 + 1, none⟩ = _
      rw [World.cell?_alloc_at _ _ _ _ rfl]; rfl
    | 2, hj =>
      simp at hj; subst hj
      show (w.alloc (.cells #[.int .u8 n1, .int .u8 n2, .int .u8 n3] 5)).cell? ⟨w.heap.size, 0 + 2, none⟩ = _
      rw [World.cell?_alloc_at _ _ _ _ rfl]; rfl
  · intro u hu; simp at hu; rcases hu with rfl | rfl | rfl <;> rfl
  · refine hK v' w' ⟨?_, hA.2.grown h2' hA.2.size (fun k hk => (hA.1.lt k hk).1)⟩
    have e : Lib.byteCells (l ++ [c1, c2, c3]) = Lib.byteCells l ++ [.int .u8 n1, .int .u8 n2, .int .u8 n3] := by subst h1 h2 h3; simp [Lib.byteCells]
    rw [e]; simpa using h1'

/-- What has been made normal, and what is to come. -/
def CSt (p : UInt8 → Bool) (R : Option (List UInt8)) (D acc : List UInt8) : Prop := R = (Tg.coded p D).map (acc ++ ·)
theorem CSt.start (p : UInt8 → Bool) (l : List UInt8) : CSt p (Tg.coded p l) l [] := by
  unfold CSt; cases Tg.coded p l <;> rfl
theorem CSt.done {p : UInt8 → Bool} {R : Option (List UInt8)} {acc : List UInt8} (h : CSt p R [] acc) : R = some acc := by
  unfold CSt at h; rw [h, Tg.coded_nil]; simp
theorem CSt.plain {p : UInt8 → Bool} {R : Option (List UInt8)} {c : UInt8} {t acc : List UInt8} (h : CSt p R (c :: t) acc) (hc : c ≠ 37) :
    (p c = true → CSt p R t (acc ++ [c])) ∧ (p c = false → R = none) := by
  unfold CSt at h ⊢
  rw [Tg.coded_plain p c t hc] at h
  constructor
  · intro hp; rw [h, if_pos hp]; cases Tg.coded p t <;> simp
  · intro hp; rw [h, if_neg (by rw [hp]; decide)]; rfl
theorem CSt.esc {p : UInt8 → Bool} {R : Option (List UInt8)} {a b : UInt8} {r acc : List UInt8} (h : CSt p R (37 :: a :: b :: r) acc) :
    ((Tg.hexd a && Tg.hexd b) = true → CSt p R r (acc ++ Tg.norm (16 * Oct.worth a + Oct.worth b))) ∧ ((Tg.hexd a && Tg.hexd b) = false → R = none) := by
  unfold CSt at h ⊢
  rw [Tg.coded_esc] at h
  constructor
  · intro hp; rw [h, if_pos hp]; cases Tg.coded p r <;> simp
  · intro hp; rw [h, if_neg (by rw [hp]; decide)]; rfl
theorem CSt.short {p : UInt8 → Bool} {R : Option (List UInt8)} {t acc : List UInt8} (h : CSt p R (37 :: t) acc) (ht : t.length < 2) : R = none := by
  unfold CSt at h
  match t, ht with
  | [], _ => rw [h, Tg.coded_one]; rfl
  | [a], _ => rw [h, Tg.coded_two]; rfl
theorem up_lit (r : Nat) (h : r < 16) : (⟨#[48, 49, 50, 51, 52, 53, 54, 55, 56, 57, 65, 66, 67, 68, 69, 70]⟩ : ByteArray)[r]'(show r < (⟨#[48, 49, 50, 51, 52, 53, 54, 55, 56, 57, 65, 66, 67, 68, 69, 70]⟩ : ByteArray).size from h) = Tg.up r := by
  have : ∀ k : Fin 16, (⟨#[48, 49, 50, 51, 52, 53, 54, 55, 56, 57, 65, 66, 67, 68, 69, 70]⟩ : ByteArray)[k.1]'(show k.1 < (⟨#[48, 49, 50, 51, 52, 53, 54, 55, 56, 57, 65, 66, 67, 68, 69, 70]⟩ : ByteArray).size from k.2) = Tg.up k.1 := by decide +kernel
  exact this ⟨r, h⟩
theorem p_query (c : UInt8) (q : Bool) : (if q then Tg.queryc c else Tg.pathc c) = (Tg.free c || has [33, 36, 38, 39, 40, 41, 42, 43, 44, 59, 61, 58, 64, 47] c || (q && c == 63)) := by
  have e : has [33, 36, 38, 39, 40, 41, 42, 43, 44, 59, 61, 58, 64, 47] c = (Tg.mark c || c == 58 || c == 64 || c == 47) := by
    unfold has Tg.mark
    simp only [List.contains_cons, List.contains_nil, Bool.or_false, Bool.or_assoc]
  unfold Tg.queryc Tg.pathc
  rw [e]
  cases q <;> simp [Bool.or_assoc]

set_option maxHeartbeats 6400000 in
set_option maxRecDepth 100000 in
theorem rcoded_s (p : UInt8 → Bool) (q : Bool) (l : List UInt8) (w : World) (hl : l.length ≤ 100000) (hp : ∀ c, p c = (Tg.free c || has [33, 36, 38, 39, 40, 41, 42, 43, 44, 59, 61, 58, 64, 47] c || (q && c == 63))) :
    Calls Tryz.prog 18 #[.string (str l), .bool q] w fun e w' => e = .returned (eres (Tg.coded p l)) ∧ Below w.heap.size w w' := by
  obtain ⟨s, hs⟩ : ∃ s, s = str l := ⟨_, rfl⟩
  have hsd : s.data.toList = l := by rw [hs, str_list]
  have hsz : s.size = l.length := by rw [hs, str_size]
  rw [← hs]
  have hdr : ∀ k (hk : k < s.size), l.drop k = s[k] :: l.drop (k + 1) := fun k hk => by
    have h1 := Lib.data_getElem? s k hk
    rw [hsd] at h1
    obtain ⟨h2, h3⟩ := List.getElem?_eq_some_iff.1 h1
    rw [List.drop_eq_getElem_cons h2, h3]
  have HD := Lib.hid hdr
  have HS0 := Lib.hid (CSt.start p l)
  have HZ := Lib.hid hsz
  generalize Tg.coded p l = R at *
  have hs6 : s.size ≤ 100000 := by omega
  have HP := Lib.hid hp
  clear hs hsd hdr hsz hp hl
  go_enter Tryz.func18, Tryz.ntmps18
  go_wp2_with fail
  go_loopw [6, 7] (fun b i wr => ∃ (k : Nat) (acc : List UInt8), k ≤ s.size ∧ i = .int .i64 k ∧ Buf w wr b acc ∧ acc.length ≤ k ∧ Hid (CSt p R (l.drop k) acc)) (fun _ i _ => s.size - (intOf i).toNat)
  case atStart => exact ⟨0, [], by omega, rfl, Buf.nil w, by simp, by rw [List.drop_zero]; exact HS0⟩
  case round =>
    obtain ⟨k, acc, hk, rfl, hB, hac, HI⟩ := hrel
    have hbw := hB.below
    by_cases hlt : k < s.size
    · have hdk := HD.out k hlt
      have hac8 : acc.length ≤ 100000000 := by omega
      have hk0 : (0 : Int) ≤ (k : Int) := by omega
      have hki : (k : Int) < s.size := by omega
      by_cases h37 : s[k] = 37
      · have b37 : ((s[k].toNat : Int) == 37) = true := by rw [h37]; rfl
        have i37 : ((s[k].toNat : Int) = 37) := by rw [h37]; rfl
        by_cases h2 : k + 2 < s.size
        · have h2i : ¬ ((s.size : Int) ≤ (k : Int) + 2) := by omega
          have h2j : (k : Int) + 2 < s.size := by omega
          have h1j : (k : Int) + 1 < s.size := by omega
          have h1k : (0 : Int) ≤ (k : Int) + 1 := by omega
          have h2k : (0 : Int) ≤ (k : Int) + 2 := by omega
          have hw1 : IntKind.i64.wrap ((k : Int) + 1) = (k : Int) + 1 := by rw [IntKind.wrap_i64]; omega
          have hw2 : IntKind.i64.wrap ((k : Int) + 2) = (k : Int) + 2 := by rw [IntKind.wrap_i64]; omega
          have hlt1 : k + 1 < s.size := by omega
          have hE := HI.out
          rw [hdk, h37, HD.out (k + 1) hlt1, HD.out (k + 1 + 1) h2] at hE
          have hE := hE.esc
          have cXa := fun (W : World) => hexa_c s[k + 1] W
          have cXb := fun (W : World) => hexa_c s[k + 2] W
          rcases hexd_digit s[k + 1] with ⟨g1, g2, g3⟩ | ⟨g1, g2⟩
          · rw [g2] at cXa
            have na : ¬ ((Oct.worth s[k + 1] : Int) = 99) := by omega
            have ba : ((Oct.worth s[k + 1] : Int) == 99) = false := beq_eq_false_iff_ne.2 na
            rcases hexd_digit s[k + 2] with ⟨f1, f2, f3⟩ | ⟨f1, f2⟩
            · rw [f2] at cXb
              have nb : ¬ ((Oct.worth s[k + 2] : Int) = 99) := by omega
              have bb : ((Oct.worth s[k + 2] : Int) == 99) = false := beq_eq_false_iff_ne.2 nb
              have HI2 := Lib.hid (hE.1 (by rw [show s[k + 1 + 1] = s[k + 2] from rfl, g1, f1]; rfl))
              obtain ⟨n, hn⟩ : ∃ n, n = 16 * Oct.worth s[k + 1] + Oct.worth s[k + 2] := ⟨_, rfl⟩
              have HI3 : Hid (CSt p R (l.drop (k + 3)) (acc ++ Tg.norm n)) := by rw [hn]; exact HI2
              have hn256 : n < 256 := by omega
              have hm : IntKind.i64.wrap (16 * (Oct.worth s[k + 1] : Int)) = 16 * (Oct.worth s[k + 1] : Int) := by rw [IntKind.wrap_i64]; omega
              have hsn : IntKind.i64.wrap (16 * (Oct.worth s[k + 1] : Int) + (Oct.worth s[k + 2] : Int)) = (n : Int) := by rw [IntKind.wrap_i64]; omega
              have hsn2 : 16 * (Oct.worth s[k + 1] : Int) + (Oct.worth s[k + 2] : Int) = (n : Int) := by omega
              have hc8 : IntKind.u8.wrap (n : Int) = (n : Int) := by rw [IntKind.wrap_u8]; omega
              obtain ⟨x, hx⟩ : ∃ x, x = UInt8.ofNat n := ⟨_, rfl⟩
              have hxn : x.toNat = n := by rw [hx]; simp; omega
              have HV : Hid (Tg.norm n = if Tg.free x then [x] else [37, Tg.up (n / 16), Tg.up (n % 16)]) := by rw [hx]; exact Lib.hid rfl
              have cF := fun (W : World) => rfree_c x W
              rw [hxn] at cF
              have hw3 : IntKind.i64.wrap ((k : Int) + 2 + 1) = ((k + 3 : Nat) : Int) := by rw [IntKind.wrap_i64]; omega
              clear hE HI2 HI hn hx hdk h37
              generalize Oct.worth s[k + 1] = wa at *
              generalize Oct.worth s[k + 2] = wb at *
              go_wp2_with fail
              refine (cXa _).mono ?_
              rintro e W1 ⟨rfl, hb1⟩
              have hB1 := hB.after hb1
              clear hb1
              go_wp2_with fail
              refine (cXb _).mono ?_
              rintro e W2 ⟨rfl, hb2⟩
              have hB2 := hB1.after hb2
              clear hb2
              go_upto_region 9 with fail
              have GXa := fun pw : LateOf W2 => late pw (cXa pw.w)
              have GXb := fun pw : LateOf W2 => late pw (cXb pw.w)
              refine wp_region_late (by kernel_rfl) (by kernel_rfl) ?_
              quiet_step (fail)
              quiet_step (fail)
              quiet_step (fail)
              quiet_step (fail)
              quiet_step ((go_at_call 32; exact GXa _))
              quiet_step (fail)
              quiet_step (fail)
              quiet_step (fail)
              quiet_step (fail)
              quiet_step (fail)
              quiet_step ((go_at_call 32; exact GXb _))
              quiet_step (fail)
              quiet_step (fail)
              refine wpQuiet_nil ?_
              intro W3 hw'
              have hb3 : Below W2.heap.size W2 W3 := by obtain ⟨pw, rfl⟩ := hw'; exact pw.h
              have hB3 := hB2.after hb3
              clear hw' hb3 GXa GXb cXa cXb hB hB1 hB2 hbw
              cases hf : Tg.free x with
              | true =>
                rw [hf] at cF
                have hno : Tg.norm n = [x] := by rw [HV.out, hf]; rfl
                rw [hno] at HI3
                clear hf HV hno
                go_wp2_with fail
                refine (cF _).mono ?_
                rintro e W ⟨rfl, rfl⟩
                go_wp2_with (at_builtin; refine app1 hB3 x hac8 rfl _ _ rfl _ (by omega) rfl rfl ?_; intro v4 W4 hB4)
                go_roundw
                case rel => exact ⟨k + 3, acc ++ [x], by omega, by go_num, hB4, by simp; omega, HI3⟩
                case measure => simp [intOf]; omega
              | false =>
                rw [hf] at cF
                have hno : Tg.norm n = [37, Tg.up (n / 16), Tg.up (n % 16)] := by rw [HV.out, hf]; rfl
                rw [hno] at HI3
                have hd1 : n / 16 < 16 := by omega
                have hd2 : n % 16 < 16 := Nat.mod_lt _ (by decide)
                have u1 := up_lit _ hd1
                have u2 := up_lit _ hd2
                have q1 : IntKind.i64.wrap ((n : Int).tdiv 16) = ((n / 16 : Nat) : Int) := by rw [IntKind.wrap_i64, Int.tdiv_eq_ediv_of_nonneg (by omega)]; omega
                have q2 : IntKind.i64.wrap ((n : Int).tmod 16) = ((n % 16 : Nat) : Int) := by rw [IntKind.wrap_i64, Int.tmod_eq_emod_of_nonneg (by omega)]; omega
                have q3 : (n : Int).tdiv 16 = ((n / 16 : Nat) : Int) := by rw [Int.tdiv_eq_ediv_of_nonneg (by omega)]; omega
                have q4 : (n : Int).tmod 16 = ((n % 16 : Nat) : Int) := by rw [Int.tmod_eq_emod_of_nonneg (by omega)]; omega
                generalize n / 16 = d1 at *
                generalize n % 16 = d2 at *
                have hd1i : (d1 : Int) < 16 := by omega
                have hd2i : (d2 : Int) < 16 := by omega
                have hwn : IntKind.i64.wrap (n : Int) = (n : Int) := by rw [IntKind.wrap_i64]; omega
                have hwd1 : IntKind.i64.wrap (d1 : Int) = (d1 : Int) := by rw [IntKind.wrap_i64]; omega
                have hwd2 : IntKind.i64.wrap (d2 : Int) = (d2 : Int) := by rw [IntKind.wrap_i64]; omega
                have hp1 : (0 : Int) ≤ (d1 : Int) := by omega
                have hp2 : (0 : Int) ≤ (d2 : Int) := by omega
                clear hf HV hno
                go_wp2_with fail
                refine (cF _).mono ?_
                rintro e W ⟨rfl, rfl⟩
                go_upto_region 13 with fail
                go_region_held3 (fun _ => True) (trivial) (first
                  | (rw [if_pos (by rfl)]; refine app3 hB3.drew 37 (Tg.up d1) (Tg.up d2) hac8 (.tmp 63) (.tmp 72) rfl _ _ _ rfl (by first | rfl | (rw [← u1]; rfl)) (by first | rfl | (rw [← u2]; rfl)) rfl rfl ?_; intro v5 W5 hB5))
                all_goals go_wp2_with fail
                all_goals go_roundw
                all_goals first
                  | exact ⟨k + 3, acc ++ [37, Tg.up d1, Tg.up d2], by omega, by go_num, hB5, by simp; omega, HI3⟩
                  | (simp [intOf]; omega)
            · rw [f2] at cXb
              have HR : Hid (R = none) := Lib.hid (hE.2 (by rw [show s[k + 1 + 1] = s[k + 2] from rfl, f1, Bool.and_false]))
              clear hE HI g1 f1 g2 f2 b37 h37 hdk
              generalize Oct.worth s[k + 1] = wa at *
              go_wp2_with fail
              refine (cXa _).mono ?_
              rintro e W1 ⟨rfl, hb1⟩
              have hb1 := bt' hbw hb1
              go_wp2_with fail
              refine (cXb _).mono ?_
              rintro e W2 ⟨rfl, hb2⟩
              have hb2 := bt' hb1 hb2
              go_wp2_with fail
              go_ret2
              exact ⟨by rw [HR.out]; rfl, hb2⟩
          · rw [g2] at cXa
            have HR : Hid (R = none) := Lib.hid (hE.2 (by rw [g1, Bool.false_and]))
            clear hE HI g1 g2 b37 h37 hdk cXb
            go_wp2_with fail
            refine (cXa _).mono ?_
            rintro e W1 ⟨rfl, hb1⟩
            have hb1 := bt' hbw hb1
            go_wp2_with fail
            go_ret2
            exact ⟨by rw [HR.out]; rfl, hb1⟩
        · have h2i : (s.size : Int) ≤ (k : Int) + 2 := by omega
          have hw2 : IntKind.i64.wrap ((k : Int) + 2) = (k : Int) + 2 := by rw [IntKind.wrap_i64]; omega
          have hE := HI.out
          rw [hdk, h37] at hE
          have HR : Hid (R = none) := Lib.hid (hE.short (by rw [List.length_drop]; have := HZ.out; omega))
          clear hE HI b37 h37 hdk h2
          go_wp2_with fail
          go_ret2
          exact ⟨by rw [HR.out]; rfl, hbw⟩
      · have b37 := nq8 s[k] 37 37 rfl h37
        have n37 : ¬ ((s[k].toNat : Int) = 37) := fun e => h37 (UInt8.toNat_inj.1 (by have : (37 : UInt8).toNat = 37 := rfl; omega))
        have hE := HI.out
        rw [hdk] at hE
        have hE := hE.plain h37
        rw [HP.out] at hE
        have cF := fun (W : World) => rfree_c s[k] W
        have cA := fun (W : World) => among_c s[k] ⟨#[33, 36, 38, 39, 40, 41, 42, 43, 44, 59, 61, 58, 64, 47]⟩ W (by decide)
        have hw1 : IntKind.i64.wrap ((k : Int) + 1) = ((k + 1 : Nat) : Int) := by rw [IntKind.wrap_i64]; omega
        simp only [] at cA
        generalize has [33, 36, 38, 39, 40, 41, 42, 43, 44, 59, 61, 58, 64, 47] s[k] = hb at *
        generalize Tg.free s[k] = fb at *
        obtain ⟨eb, heb⟩ : ∃ eb, eb = (s[k] == 63) := ⟨_, rfl⟩
        rw [← heb] at hE
        have b63 : ((s[k].toNat : Int) == 63) = eb := by
          rw [heb]
          by_cases h63 : s[k] = 63
          · rw [h63]; rfl
          · rw [nq8 s[k] 63 63 rfl h63]; exact (beq_eq_false_iff_ne.2 h63).symm
        clear h37 HI hdk heb
        cases fb with
        | true =>
          have HI2 := Lib.hid (hE.1 (by simp))
          clear hE
          go_wp2_with fail
          refine (cF _).mono ?_
          rintro e W ⟨rfl, rfl⟩
          go_wp2_with (at_builtin; refine app1 hB s[k] hac8 rfl _ _ rfl _ rfl rfl rfl ?_; intro v4 W4 hB4)
          go_roundw
          case rel => exact ⟨k + 1, acc ++ [s[k]], by omega, by go_num, hB4, by simp; omega, HI2⟩
          case measure => simp [intOf]; omega
        | false =>
          cases hb with
          | true =>
            have HI2 := Lib.hid (hE.1 (by simp))
            clear hE
            go_wp2_with fail
            refine (cF _).mono ?_
            rintro e W ⟨rfl, rfl⟩
            go_wp2_with fail
            refine (cA _).mono ?_
            rintro e W ⟨rfl, rfl⟩
            go_wp2_with (at_builtin; refine app1 hB s[k] hac8 rfl _ _ rfl _ rfl rfl rfl ?_; intro v4 W4 hB4)
            go_roundw
            case rel => exact ⟨k + 1, acc ++ [s[k]], by omega, by go_num, hB4, by simp; omega, HI2⟩
            case measure => simp [intOf]; omega
          | false =>
            cases q with
            | false =>
              have HR := Lib.hid (hE.2 (by simp))
              clear hE
              go_wp2_with fail
              refine (cF _).mono ?_
              rintro e W ⟨rfl, rfl⟩
              go_wp2_with fail
              refine (cA _).mono ?_
              rintro e W ⟨rfl, rfl⟩
              go_wp2_with fail
              go_ret2
              exact ⟨by rw [HR.out]; rfl, hbw⟩
            | true =>
              cases eb with
              | true =>
                have HI2 := Lib.hid (hE.1 (by simp))
                clear hE
                go_wp2_with fail
                refine (cF _).mono ?_
                rintro e W ⟨rfl, rfl⟩
                go_wp2_with fail
                refine (cA _).mono ?_
                rintro e W ⟨rfl, rfl⟩
                go_wp2_with (at_builtin; refine app1 hB s[k] hac8 rfl _ _ rfl _ rfl rfl rfl ?_; intro v4 W4 hB4)
                go_roundw
                case rel => exact ⟨k + 1, acc ++ [s[k]], by omega, by go_num, hB4, by simp; omega, HI2⟩
                case measure => simp [intOf]; omega
              | false =>
                have HR := Lib.hid (hE.2 (by simp))
                clear hE
                go_wp2_with fail
                refine (cF _).mono ?_
                rintro e W ⟨rfl, rfl⟩
                go_wp2_with fail
                refine (cA _).mono ?_
                rintro e W ⟨rfl, rfl⟩
                go_wp2_with fail
                go_ret2
                exact ⟨by rw [HR.out]; rfl, hbw⟩
    · have hc := hB.string
      have HR : Hid (R = some acc) := Lib.hid (by have h := HI.out; rw [List.drop_eq_nil_of_le (by have := HZ.out; omega)] at h; exact h.done)
      have hki : ¬ ((k : Int) < s.size) := by omega
      obtain ⟨x, hx⟩ : ∃ x, str acc = x := ⟨_, rfl⟩
      rw [hx] at hc
      have HQ : Hid (eres R = .tuple #[.string x, .bool true]) := by rw [HR.out, ← hx]; exact Lib.hid rfl
      clear HI HR hx
      go_wp2_with fail
      go_ret2
      exact ⟨congrArg Ending.returned HQ.out.symm, hbw⟩
end Go.Proofs.YtlikjfemkadciaaGreatDoor
