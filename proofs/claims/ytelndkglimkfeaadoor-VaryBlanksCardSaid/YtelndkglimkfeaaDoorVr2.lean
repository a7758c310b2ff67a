/- Package vary: keys. -/
import Derived.Test.YtelndkglimkfeaaDoorVr1
namespace Go.Proofs.YtelndkglimkfeaaDoor
open Go.RowKit

/-- A function that is asked for parts, called. -/
theorem PartFn.call {w : World} {vf : Value} {fs : List Fld.F} (h : PartFn w vf fs) (hf : Fits fs) : ∃ b, vf = .func (.func 42) #[] #[.pointer (some ⟨b, 0, none⟩)] ∧
    ∀ w1, Below w.heap.size w w1 → ∀ nm : List UInt8, nm.length ≤ 1000000 → Calls Tryd.prog 42 #[.string (str nm), .pointer (some ⟨b, 0, none⟩)] w1 fun e w' => e = .returned (.string (str (Vr.part nm fs))) ∧ Below w1.heap.size w1 w' := by
  obtain ⟨b, va, rfl, h1, h2⟩ := h
  exact ⟨b, rfl, fun w1 hb nm hn => part_c nm b va fs w1 ((hb.block _ (lt_of_block h1)).trans h1) (h2.later hb) hf hn⟩

theorem row_data (nm : List UInt8) (fs : List Fld.F) : (str (Oct.lower nm) ++ str (Vr.part nm fs) ++ ⟨#[10]⟩ : ByteArray).data.toList = Vr.row nm fs := by
  unfold Vr.row; simp [str]

set_option maxHeartbeats 1600000 in
set_option maxRecDepth 100000 in
theorem Key_big (vn : Value) (ns : List (List UInt8)) (va : Value) (fs : List Fld.F) (w : World) (hn : SIn w vn ns) (hnl : ns.length ≤ 100000) (hnz : ∀ n ∈ ns, n.length ≤ 1000) (ha : FIn w va fs) (hf : Fits fs) (hj : ∀ n, (Vr.joined n fs).length ≤ 100000) :
    Calls Tryd.prog 14 #[vn, va] w fun e w' => e = .returned (.string (str (Vr.key ns fs))) ∧ Below w.heap.size w w' := by
  have cP := parts_w va fs w ha
  obtain ⟨aa, ca, rfl, _⟩ := id ha
  have HF := Lib.hid hf
  have HJ := Lib.hid hj
  have HZ := Lib.hid hnz
  have hkl : ∀ k, (Vr.key (ns.take k) fs).length ≤ 100000 * (1000 + 100000 + 2) := fun k =>
    Nat.le_trans (Vr.key_length (ns.take k) fs 1000 100000 (fun n h => hnz n (List.mem_of_mem_take h)) hj) (Nat.mul_le_mul_right _ (Nat.le_trans (List.length_take_le' k ns) hnl))
  have HK := Lib.hid hkl
  obtain ⟨n, hnn⟩ : ∃ n, n = ns.length := ⟨_, rfl⟩
  have HN := Lib.hid hnn
  by_cases h0 : ns = []
  · obtain ⟨ao, cap, rfl, _⟩ := hn
    have HE := Lib.hid h0
    have e0 : ns.length = 0 := by rw [h0]; rfl
    rw [e0]
    clear h0 hf hj hnz hkl hnn hnl e0 ha
    go_enter Tryd.func14, Tryd.ntmps14
    go_wp2_with fail
    refine cP.mono ?_
    rintro e w1 ⟨vf, rfl, hP, hb1⟩
    obtain ⟨b, rfl, _⟩ := hP.call HF.out
    go_wp2_with fail
    refine wp_loop_rounds 1 ?_
    rw [rounds_succ]
    have hS := (Buf.nil_of hb1).string
    go_wp2_with fail
    go_ret
    exact ⟨by rw [HE.out]; rfl, hb1⟩
  obtain ⟨bn, on, cn, rfl, hc⟩ := hn.at_ h0
  rw [← hnn]
  have hnl' : n ≤ 100000 := by omega
  have HC := Lib.hid hc
  clear h0 hf hj hnz hkl hnn hnl hc ha hn
  go_enter Tryd.func14, Tryd.ntmps14
  go_wp2_with fail
  refine cP.mono ?_
  rintro e w1 ⟨vf, rfl, hP, hb1⟩
  obtain ⟨b, rfl, hcall⟩ := hP.call HF.out
  have HA := Lib.hid hcall
  clear hcall hP cP
  go_wp2_with fail
  go_loopw [6, 13] (fun v i wr => ∃ k : Nat, k ≤ n ∧ i = .int .i64 k ∧ Buf w1 wr v (Vr.key (ns.take k) fs)) (fun _ i _ => n - (intOf i).toNat)
  case atStart => exact ⟨0, by omega, rfl, Buf.nil w1⟩
  case round =>
    obtain ⟨k, hk, rfl, hB⟩ := hrel
    have hbr := hB.below
    have hbw := hb1.trans (hbr.mono hb1.size)
    by_cases hlt : k < n
    · have ka : k < ns.length := by have := HN.out; omega
      have c1 := HC.out wr hbw k ka
      have zk := HZ.out _ (List.getElem_mem ka)
      have HS := Lib.hid (Vr.key_snoc ns fs k ka)
      have cL := fun w => Lower_s (str ns[k]) w (by rw [str_size]; omega)
      rw [str_list] at cL
      have cA := fun (w2 : World) (hb : Below w1.heap.size w1 w2) => HA.out w2 hb ns[k] (by omega)
      have hsz : (str (Oct.lower ns[k])).size ≤ 1000 := by rw [str_size, Oct.lower_length]; exact zk
      have hpz : (str (Vr.part ns[k] fs)).size ≤ 100001 := by
        rw [str_size]; have := Vr.part_length ns[k] fs; have := HJ.out ns[k]; omega
      have HD := Lib.hid (row_data ns[k] fs)
      have hkl := HK.out k
      obtain ⟨L, hL⟩ : ∃ L, L = Vr.key (ns.take k) fs := ⟨_, rfl⟩
      rw [← hL] at hB hkl
      have HL := Lib.hid hL
      obtain ⟨x, hx⟩ : ∃ x, x = str ns[k] := ⟨_, rfl⟩
      obtain ⟨y, hy⟩ : ∃ y, y = str (Oct.lower ns[k]) := ⟨_, rfl⟩
      obtain ⟨z, hz⟩ : ∃ z, z = str (Vr.part ns[k] fs) := ⟨_, rfl⟩
      rw [← hx] at c1 cL cA
      rw [← hy] at cL hsz HD
      rw [← hz] at cA hpz HD
      have hsum : L.length + (y ++ z ++ ⟨#[10]⟩ : ByteArray).size ≤ 100000000000 := by
        rw [ByteArray.size_append, ByteArray.size_append, show (⟨#[10]⟩ : ByteArray).size = 1 from rfl]; omega
      clear hL hx hy hz zk
      go_wp2_with fail
      refine (cL _).mono ?_
      rintro e w2 ⟨rfl, hb2⟩
      have cA2 := cA w2 (hbr.trans (hb2.mono hbr.size))
      go_wp2_with fail
      refine cA2.mono ?_
      rintro e w3 ⟨rfl, hb3⟩
      have hb23 := hb2.trans (hb3.mono hb2.size)
      have hB3 := hB.after hb23
      clear cA2 cA cL
      go_wp2_with (at_builtin; refine appStr hB3 (y ++ z ++ ⟨#[10]⟩) hsum rfl _ _ rfl rfl rfl ?_; intro v' w4 hB4)
      go_roundw
      case rel => exact ⟨k + 1, by omega, by go_num, by rw [HS.out, ← HL.out, ← HD.out]; exact hB4⟩
      case measure => simp [intOf]; omega
    · have hE : ns.take k = ns := List.take_of_length_le (by have := HN.out; omega)
      rw [hE] at hB
      clear hE
      have hS := hB.string
      obtain ⟨L, hL⟩ : ∃ L, L = str (Vr.key ns fs) := ⟨_, rfl⟩
      rw [← hL] at hS
      have HL := Lib.hid hL
      clear hL
      have hv : ∃ a n c, u6 = .slice a n c := by
        rcases hB.cells with ⟨rfl, _⟩ | ⟨g, c, rfl, _⟩
        · exact ⟨_, _, _, rfl⟩
        · exact ⟨_, _, _, rfl⟩
      obtain ⟨a1, n1, c1, rfl⟩ := hv
      go_wp2_with fail
      go_ret
      exact ⟨by rw [← HL.out]; rfl, hbw⟩
theorem Key_w (vn : Value) (ns : List (List UInt8)) (va : Value) (fs : List Fld.F) (w : World) (hn : SIn w vn ns) (hnl : ns.length ≤ 20) (hnz : ∀ n ∈ ns, n.length ≤ 1000) (ha : FIn w va fs) (hf : Fits fs) (hj : ∀ n, (Vr.joined n fs).length ≤ 100000) :
    Calls Tryd.prog 14 #[vn, va] w fun e w' => e = .returned (.string (str (Vr.key ns fs))) ∧ Below w.heap.size w w' :=
  Key_big vn ns va fs w hn (by omega) hnz ha hf hj
end Go.Proofs.YtelndkglimkfeaaDoor
