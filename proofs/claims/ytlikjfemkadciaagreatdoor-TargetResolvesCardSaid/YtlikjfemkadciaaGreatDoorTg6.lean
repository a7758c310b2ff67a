/- Package target: texts cut; a coded octet made normal. -/
import Derived.Test.YtlikjfemkadciaaGreatDoorTg5
namespace Go.Proofs.YtlikjfemkadciaaGreatDoor
open Go.RowKit

theorem split_sp (d : UInt8) : ∀ s : List UInt8, Lib.splitK [d] 0 (Lib.count s [d]) s = Tg.sp d s
  | [] => by
    have : Lib.count [] [d] = 0 := by rw [Lib.count_one]; rfl
    rw [this]; rfl
  | c :: t => by
    have ih := split_sp d t
    by_cases hc : c = d
    · subst hc
      rw [Lib.count_cons_eq, Nat.add_comm, Tg.sp_sep, ← ih]
      have e : Lib.index (c :: t) [c] = 0 := by rw [Lib.index_one]; simp [Lib.indexByte]
      simp only [Lib.splitK, e]
      rfl
    · rw [Lib.count_cons_ne c d t hc]
      obtain ⟨x, xs, hx⟩ := Tg.sp_cases d t
      rw [Tg.sp_other d c t hc hx]
      rw [hx] at ih
      have e : Lib.index (c :: t) [d] = if Lib.index t [d] == -1 then -1 else Lib.index t [d] + 1 := by
        rw [Lib.index_one, Lib.index_one]
        have : (c == d) = false := beq_eq_false_iff_ne.2 hc
        simp [Lib.indexByte, this]
      have hge := Lib.index_ge t [d]
      cases hk : Lib.count t [d] with
      | zero =>
        rw [hk] at ih
        have ih' : [t] = x :: xs := ih
        obtain ⟨rfl, rfl⟩ := List.cons.inj ih'
        rfl
      | succ k =>
        rw [hk] at ih
        simp only [Lib.splitK] at ih ⊢
        rw [e]
        by_cases hm : Lib.index t [d] = -1
        · rw [hm] at ih ⊢
          simp only [beq_self_eq_true, if_true] at ih ⊢
          obtain ⟨rfl, rfl⟩ := List.cons.inj ih
          rfl
        · have b1 : (Lib.index t [d] == -1) = false := beq_eq_false_iff_ne.2 hm
          have b2 : (Lib.index t [d] + 1 == -1) = false := beq_eq_false_iff_ne.2 (by omega)
          simp only [b1, b2, Bool.false_eq_true, if_false] at ih ⊢
          obtain ⟨h1, h2⟩ := List.cons.inj ih
          have e1 : (Lib.index t [d] + 1).toNat = (Lib.index t [d]).toNat + 1 := by omega
          rw [e1, ← h1, ← h2]
          simp
theorem Split_w (d : UInt8) (l : List UInt8) (w : World) (hl : l.length ≤ 1000000) (hm : MaxOk w) :
    Calls Tryz.prog 61 #[.string (str l), .string ⟨#[d]⟩] w fun e w' => (∃ A, e = .returned (.slice (some ⟨A, 0, none⟩) (Tg.sp d l).length (Tg.sp d l).length) ∧ SIn w' (.slice (some ⟨A, 0, none⟩) (Tg.sp d l).length (Tg.sp d l).length) (Tg.sp d l)) ∧ Below w.heap.size w w' := by
  obtain ⟨m, hm⟩ := hm
  refine (Tryz.strings_Split (str l) ⟨#[d]⟩ m w (by rw [str_size]; omega) hm (Nat.le_refl 1)).mono ?_
  rintro e w' ⟨rfl, rfl⟩
  have hk : Lib.countB (str l) ⟨#[d]⟩ = Lib.count l [d] := by
    show Lib.count (str l).data.toList [d] = _
    rw [str_list]
  have hd := Lib.splitB_data ⟨#[d]⟩ 0 (Lib.countB (str l) ⟨#[d]⟩) (str l)
  have hs : (Lib.splitB ⟨#[d]⟩ 0 (Lib.countB (str l) ⟨#[d]⟩) (str l)).map (·.data.toList) = Tg.sp d l := by
    rw [hd, hk, str_list]; exact split_sp d l
  have hlen := Lib.splitB_all ⟨#[d]⟩ (Nat.le_refl 1) 0 _ (str l) rfl
  have hn : Lib.countB (str l) ⟨#[d]⟩ + 1 = (Tg.sp d l).length := by rw [← hs, List.length_map, hlen]
  have hc : (Lib.splitB ⟨#[d]⟩ 0 (Lib.countB (str l) ⟨#[d]⟩) (str l)).map Value.string = strCells (Tg.sp d l) := by
    rw [← hs]; simp [strCells, str_of]
  rw [hn, hc]
  refine ⟨⟨_, rfl, _, _, rfl, .inr ⟨w.heap.size, 0, rfl, by simp, fun j hj => ?_⟩⟩, (Below.refl _ _).alloc (Nat.le_refl _) _⟩
  rw [World.cell?_alloc_at _ _ _ _ (by rfl)]
  simp [strCells, hj]

theorem up_ch (r : Nat) (h : r < 16) : Lib.toUpperA [Oct.ch r] = [Tg.up r] ∧ (Oct.ch r).toNat < 128 := by
  have : ∀ k : Fin 16, Lib.toUpperA [Oct.ch k.1] = [Tg.up k.1] ∧ (Oct.ch k.1).toNat < 128 := by decide +kernel
  exact this ⟨r, h⟩
theorem upper_print (n : Nat) (hn : n < 256) : (∀ c ∈ Oct.print n 16, c.toNat < 128) ∧ (n < 16 → Lib.toUpperA (Oct.print n 16) = [Tg.up n]) ∧ (16 ≤ n → Lib.toUpperA (Oct.print n 16) = [Tg.up (n / 16), Tg.up (n % 16)]) := by
  have e : Oct.print n 16 = Oct.dgs 16 n := rfl
  rw [e]
  by_cases h : n < 16
  · rw [Oct.dgs_last h]
    have := up_ch n h
    exact ⟨fun c hc => by rw [List.mem_singleton] at hc; rw [hc]; exact this.2, fun _ => this.1, fun h2 => by omega⟩
  · rw [Oct.dgs_more (by decide) (by omega), Oct.dgs_last (by omega)]
    have h1 := up_ch (n / 16) (by omega)
    have h2 := up_ch (n % 16) (by omega)
    refine ⟨fun c hc => ?_, fun h3 => absurd h3 h, fun _ => ?_⟩
    · rcases List.mem_append.1 hc with hc | hc <;> rw [List.mem_singleton] at hc <;> rw [hc]
      · exact h1.2
      · exact h2.2
    · have e2 : ∀ a b : List UInt8, Lib.toUpperA (a ++ b) = Lib.toUpperA a ++ Lib.toUpperA b := fun a b => by simp [Lib.toUpperA]
      rw [e2, h1.1, h2.1]; rfl

set_option maxHeartbeats 800000 in
set_option maxRecDepth 100000 in
theorem decoded_s (n : Nat) (w : World) (hn : n < 256) (hT : Tabs w) :
    Calls Tryz.prog 63 #[.int .u8 n] w fun e w' => e = .returned (.string (str (Tg.norm n))) ∧ Below w.heap.size w w' := by
  obtain ⟨c, hc⟩ : ∃ c : UInt8, c = UInt8.ofNat n := ⟨_, rfl⟩
  have hcn : c.toNat = n := by rw [hc]; simp; omega
  have cI := fun (x : ByteArray) (w : World) (hx : x = str freeS) => in_freeS c x w hx
  have HV : Hid (Tg.norm n = if Tg.free c then [c] else [37, Tg.up (n / 16), Tg.up (n % 16)]) := by rw [hc]; exact Lib.hid rfl
  rw [hcn] at cI
  cases hf : Tg.free c with
  | true =>
    rw [hf] at cI HV
    have hB := fun (W : World) => (Buf.one (Below.refl W.heap.size W) c (n : Int) (by rw [hcn])).string
    have HV2 : Hid (Tg.norm n = [c]) := by rw [HV.out]; exact Lib.hid rfl
    clear HV hf hc hcn
    go_enter Tryz.func63, Tryz.ntmps63
    rw [lit_free]
    go_wp2_with fail
    refine (cI _ _ (by rfl)).mono ?_
    rintro e w1 ⟨rfl, hb⟩
    go_wp2_with fail
    go_ret
    exact ⟨by rw [HV2.out]; rfl, hb.alloc hb.size _⟩
  | false =>
    rw [hf] at cI HV
    have cP := fun (W : World) (hb : Below w.heap.size w W) => Print_s n 16 W (by omega) (hT.later hb)
    have hup := upper_print n hn
    have cU := fun W => Tryz.strings_ToUpper_ascii (str (Oct.print n 16)) W (by rw [str_size]; have := Oct.dgs_len16 n (by omega); show (Oct.dgs 16 n).length ≤ _; omega) (fun j b hj => hup.1 b (by rw [str_list] at hj; exact List.mem_of_getElem? hj))
    rw [str_list] at cU
    have cU2 : ∀ W, Calls Tryz.prog 80 #[.string (str (Oct.print n 16))] W fun e w' => e = .returned (.string (str (Lib.toUpperA (Oct.print n 16)))) ∧ Below W.heap.size W w' := cU
    by_cases h16 : n < 16
    · have HV2 : Hid ((⟨#[37]⟩ : ByteArray) ++ ((⟨#[48]⟩ : ByteArray) ++ str [Tg.up n]) = str (Tg.norm n)) := by
        refine Lib.hid (str_same ?_)
        rw [HV.out, if_neg (by decide), app_data, app_data, str_list, Nat.div_eq_of_lt h16, Nat.mod_eq_of_lt h16]; rfl
      rw [hup.2.1 h16] at cU2
      have hsz : ((str [Tg.up n]).size : Int) < 2 := by rw [str_size]; simp
      generalize str [Tg.up n] = x at *
      generalize str (Oct.print n 16) = y at *
      clear HV hf hc hcn cU hup hT
      go_enter Tryz.func63, Tryz.ntmps63
      rw [lit_free]
      go_wp2_with fail
      refine (cI _ _ (by rfl)).mono ?_
      rintro e w1 ⟨rfl, hb⟩
      go_wp2_with fail
      refine (cP _ hb).mono ?_
      rintro e w2 ⟨rfl, hb2⟩
      go_wp2_with fail
      refine (cU2 _).mono ?_
      rintro e w3 ⟨rfl, hb3⟩
      go_wp2_with fail
      go_ret
      exact ⟨by rw [← HV2.out]; rfl, bt' (bt' hb hb2) hb3⟩
    · have HV2 : Hid ((⟨#[37]⟩ : ByteArray) ++ str [Tg.up (n / 16), Tg.up (n % 16)] = str (Tg.norm n)) := by
        refine Lib.hid (str_same ?_)
        rw [HV.out, if_neg (by decide), app_data, str_list]; rfl
      rw [hup.2.2 (by omega)] at cU2
      have hsz : ¬ ((str [Tg.up (n / 16), Tg.up (n % 16)]).size : Int) < 2 := by rw [str_size]; simp
      have hsz2 : (str [Tg.up (n / 16), Tg.up (n % 16)]).size ≤ 100 := by rw [str_size]; simp
      generalize str [Tg.up (n / 16), Tg.up (n % 16)] = x at *
      generalize str (Oct.print n 16) = y at *
      clear HV hf hc hcn cU hup hT
      go_enter Tryz.func63, Tryz.ntmps63
      rw [lit_free]
      go_wp2_with fail
      refine (cI _ _ (by rfl)).mono ?_
      rintro e w1 ⟨rfl, hb⟩
      go_wp2_with fail
      refine (cP _ hb).mono ?_
      rintro e w2 ⟨rfl, hb2⟩
      go_wp2_with fail
      refine (cU2 _).mono ?_
      rintro e w3 ⟨rfl, hb3⟩
      go_wp2_with fail
      go_ret
      exact ⟨by rw [← HV2.out]; rfl, bt' (bt' hb hb2) hb3⟩
end Go.Proofs.YtlikjfemkadciaaGreatDoor
