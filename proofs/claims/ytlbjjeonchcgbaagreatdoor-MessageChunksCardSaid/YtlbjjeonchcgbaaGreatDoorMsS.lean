/- The statements of layer 8: how long what is right and not too great is. -/
import Derived.Test.YtlbjjeonchcgbaaGreatDoorMs6
import Derived.Test.YtlbjjeonchcgbaaGreatDoorMsP2
namespace Go.Proofs.YtlbjjeonchcgbaaGreatDoor
open Go.RowKit

theorem enc_one_small (x : List UInt8) (h : x.length ≤ 3000) : (Ck.encode [x]).length ≤ 4000 := by
  unfold Ck.encode Ck.chunkOf
  by_cases h0 : x = []
  · subst h0; decide
  · simp only [List.flatMap_cons, List.flatMap_nil, List.append_nil]
    rw [if_neg h0]
    have h2 : (Oct.print (x.length : Int) 16).length ≤ 20 := Ck.hex_len 19 x.length (by omega)
    simp only [List.length_append, List.length_cons, List.length_nil]
    omega
theorem right_len {s : St.S} {fs : List Fld.F} {x m : List UInt8} (h : Ms.right ⟨s, fs, x⟩ m = true) (hx : x.length ≤ 3000) :
    (Ms.print ⟨s, fs, x⟩ m).length ≤ 100000 ∧ (Fld.print fs).length ≤ 65536 ∧ (St.text s).length ≤ 9000 := by
  obtain ⟨_, h2, h3, _⟩ := Ms.right_parts h
  have f1 : (Fld.print fs).length ≤ 65536 := by rw [Fld.print_length]; exact (Fld.fault_zero h3).2.2
  have f2 : (St.text s).length ≤ 9000 := by
    have a := St.body_len h2
    rw [St.text_len]
    by_cases h0 : s.status = 0
    · have := a.1 h0; simp only [] at this; omega
    · have := a.2 h0; simp only [] at this; omega
  refine ⟨?_, f1, f2⟩
  have h4 := enc_one_small x hx
  unfold Ms.print Ms.head
  simp only [List.length_append]
  split <;> omega
theorem Sm.small {s : St.S} {fs : List Fld.F} {x m : List UInt8} (h : Sm s fs x m) : Small fs :=
  ⟨by have := h.count; omega, fun f hf => by have := h.fields f hf; omega⟩
theorem sets7 {W : World} {g : Nat} {a b c d e f h a' b' c' d' e' f' h' : Value} (hh : W.heap[g]? = some (.cells #[a, b, c, d, e, f, h] 28 (0, 0))) :
    (((((((W.setCell ⟨g, 0, none⟩ a').setCell ⟨g, 1, none⟩ b').setCell ⟨g, 2, none⟩ c').setCell ⟨g, 3, none⟩ d').setCell ⟨g, 4, none⟩ e').setCell ⟨g, 5, none⟩ f').setCell ⟨g, 6, none⟩ h').heap[g]? = some (.cells #[a', b', c', d', e', f', h'] 28 (0, 0)) := by
  simp [World.setCell, Array.getElem?_modify, hh]
theorem sets7_buts (W : World) (g : Nat) (a' b' c' d' e' f' h' : Value) : Buts g g W (((((((W.setCell ⟨g, 0, none⟩ a').setCell ⟨g, 1, none⟩ b').setCell ⟨g, 2, none⟩ c').setCell ⟨g, 3, none⟩ d').setCell ⟨g, 4, none⟩ e').setCell ⟨g, 5, none⟩ f').setCell ⟨g, 6, none⟩ h') :=
  (((((((Buts.refl g g W).put 0 a').put 1 b').put 2 c').put 3 d').put 4 e').put 5 f').put 6 h'
theorem msg_no_oct {W : World} {g : Nat} {a b d : ByteArray} {c e : Int} {x y : Value} (hx : ∀ i, x ≠ .int .u8 i) (hy : ∀ i, y ≠ .int .u8 i) (hh : W.heap[g]? = some (.cells #[.string a, .string b, .int .i64 c, .string d, .int .i64 e, x, y] 28 (0, 0))) (j : Nat) (i : Int) : W.cell? ⟨g, j, none⟩ ≠ some (.int .u8 i) := by
  rw [cell_of_row _ _ _ _ _ _ hh]
  rcases j with _ | _ | _ | _ | _ | _ | _ | j <;> simp [hx, hy]
/-- A message stored into its box: what is behind the call. -/
theorem two_done {V w : World} {g k Y : Nat} {fa ba : Option Addr} {fc bc : Nat} {gs : List Fld.F} {y : List UInt8} (d0 d1 d3 : ByteArray) (du dm : Int)
    (h : FIn w (.slice fa k fc) gs ∧ BIn w (.slice ba Y bc) y ∧ NilOk (.slice ba Y bc) ∧ Below V.heap.size V w ∧ w.heap[g]? = some (.cells #[.string ⟨#[]⟩, .string ⟨#[]⟩, .int .i64 0, .string ⟨#[]⟩, .int .i64 0, .slice none 0 0, .slice none 0 0] 28 (0, 0)) ∧ (∀ ad j c, (Value.slice fa k fc) = .slice (some ad) j c → ad.block ≠ g) ∧ V.heap.size ≤ g) :
    ∃ W, W = (((((((w.setCell ⟨g, 0, none⟩ (.string d0)).setCell ⟨g, 1, none⟩ (.string d1)).setCell ⟨g, 2, none⟩ (.int .i64 du)).setCell ⟨g, 3, none⟩ (.string d3)).setCell ⟨g, 4, none⟩ (.int .i64 dm)).setCell ⟨g, 5, none⟩ (.slice fa k fc)).setCell ⟨g, 6, none⟩ (.slice ba Y bc)) ∧
      FIn W (.slice fa k fc) gs ∧ BIn W (.slice ba Y bc) y ∧ NilOk (.slice ba Y bc) ∧ Below V.heap.size V W ∧ W.heap[g]? = some (.cells #[.string d0, .string d1, .int .i64 du, .string d3, .int .i64 dm, .slice fa k fc, .slice ba Y bc] 28 (0, 0)) := by
  obtain ⟨hf, hx, hn, hbz, hz, hne, hle⟩ := h
  have hq := sets7_buts w g (.string d0) (.string d1) (.int .i64 du) (.string d3) (.int .i64 dm) (.slice fa k fc) (.slice ba Y bc)
  have hno : ∀ j i, w.cell? ⟨g, j, none⟩ ≠ some (.int .u8 i) := msg_no_oct (fun i h => by cases h) (fun i h => by cases h) hz
  have hs := sets7 (a' := .string d0) (b' := .string d1) (c' := .int .i64 du) (d' := .string d3) (e' := .int .i64 dm) (f' := .slice fa k fc) (h' := .slice ba Y bc) hz
  exact ⟨_, rfl, hf.buts hq (fun ad j c h => ⟨hne ad j c h, hne ad j c h⟩), hx.buts hq hno hno, hn, hbz.trans (hq.below hbz.size hle hle), hs⟩
/-- A text's octets, as a run and what came of it. -/
theorem tx_run (T : ByteArray) (l : List UInt8) (hl : T.data.toList = l) (n : Nat) (hn : T.size = n) (w : World) (hs : n ≤ 1000000) : ∃ c w', (convert 9 22 (.string T)).run Tryz.prog w = .ok (.slice (some ⟨w.heap.size, 0, none⟩) n c) w' ∧ BIn w' (.slice (some ⟨w.heap.size, 0, none⟩) n c) l ∧ Below w.heap.size w w' := by
  have h := octets_text T w (by omega)
  rw [hl, hn] at h
  exact h
end Go.Proofs.YtlbjjeonchcgbaaGreatDoor
