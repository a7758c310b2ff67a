/- The program's package page: mathematics of a page's octets as the program reads and writes them. -/
import Derived.Test.YtlipgphmhkjnpaaDoorPgR2
namespace Pg
/-- What the program lays before it frames: three noughts, the body, noughts; then the first three are set. -/
theorem inner_set (k : Nat) (b : L) : (((0 :: 0 :: 0 :: (b ++ List.replicate (505 - b.length) (0 : UInt8))).set 0 (UInt8.ofNat k)).set 1 (UInt8.ofNat (b.length / 256))).set 2 (UInt8.ofNat (b.length % 256)) = inner k b := rfl
theorem lay_zero : (List.replicate 508 (0 : UInt8)) = 0 :: 0 :: 0 :: ([] ++ List.replicate (505 - ([] : L).length) 0) := rfl
theorem lay_more (p x : L) (h : p.length + x.length ≤ 505) :
    (0 :: 0 :: 0 :: (p ++ List.replicate (505 - p.length) (0 : UInt8))).take (3 + p.length) ++ (x ++ (0 :: 0 :: 0 :: (p ++ List.replicate (505 - p.length) (0 : UInt8))).drop (3 + p.length + x.length)) =
      0 :: 0 :: 0 :: ((p ++ x) ++ List.replicate (505 - (p ++ x).length) 0) := by
  rw [show 3 + p.length = p.length + 3 by omega, show p.length + 3 + x.length = (p.length + x.length) + 3 by omega]
  simp only [List.take_succ_cons, List.drop_succ_cons, List.cons_append]
  rw [List.take_left, List.drop_append, List.drop_of_length_le (by omega), List.nil_append, List.drop_replicate, List.append_assoc, List.length_append]
  congr 6
  omega
/-- Is all of it noughts? -/
def blank (b : L) : Bool := b.all (· == 0)
theorem blank_zeros {b : L} (h : blank b = true) : b = List.replicate b.length 0 := by
  unfold blank at h
  rw [List.all_eq_true] at h
  exact List.eq_replicate_iff.2 ⟨rfl, fun x hx => by simpa using h x hx⟩
theorem blank_rep (n : Nat) : blank (List.replicate n 0) = true := by
  unfold blank
  rw [List.all_eq_true]
  intro x hx
  rw [(List.mem_replicate.1 hx).2]; rfl
/-- What is framed, read. -/
def ofT (t : L) : Nat × L × Bool := if kind3 t = 0 ∨ 505 < size3 t ∨ blank (t.drop (3 + size3 t)) = false then (0, [], false) else (kind3 t, (t.drop 3).take (size3 t), true)
theorem head3 {t : L} (h : 3 ≤ t.length) : ∃ a b c r, t = a :: b :: c :: r := by
  match t, h with
  | a :: b :: c :: r, _ => exact ⟨a, b, c, r, rfl⟩
theorem kind_lt (t : L) : kind3 t < 256 := (t.getD 0 0).toNat_lt
theorem size_split (t : L) : (t.getD 1 0).toNat = size3 t / 256 ∧ (t.getD 2 0).toNat = size3 t % 256 := by
  have := (t.getD 1 0).toNat_lt
  have := (t.getD 2 0).toNat_lt
  unfold size3
  omega
theorem inner_of {t : L} (h : t.length = 508) (h2 : size3 t ≤ 505) (h3 : blank (t.drop (3 + size3 t)) = true) : t = inner (kind3 t) ((t.drop 3).take (size3 t)) := by
  obtain ⟨s1, s2⟩ := size_split t
  have hk : UInt8.ofNat (kind3 t) = t.getD 0 0 := by unfold kind3; simp
  have hn1 : UInt8.ofNat (size3 t / 256) = t.getD 1 0 := by rw [← s1]; simp
  have hn2 : UInt8.ofNat (size3 t % 256) = t.getD 2 0 := by rw [← s2]; simp
  have hl : ((t.drop 3).take (size3 t)).length = size3 t := by rw [List.length_take, List.length_drop]; omega
  have hz := blank_zeros h3
  rw [List.length_drop, h, show 508 - (3 + size3 t) = 505 - size3 t by omega] at hz
  unfold inner
  rw [hl, hk, hn1, hn2, ← hz]
  generalize size3 t = n at *
  obtain ⟨a, b, c, r, rfl⟩ := head3 (t := t) (by omega)
  simp only [List.getD_cons_zero, List.getD_cons_succ, List.drop_succ_cons, List.drop_zero]
  rw [show 3 + n = n + 3 by omega]
  simp only [List.drop_succ_cons]
  rw [List.take_append_drop]
theorem frame_getD {t : L} (i : Nat) (h : i < t.length) : (Cr.frame t).getD i 0 = t.getD i 0 := by
  unfold Cr.frame
  rw [List.getD_eq_getElem?_getD, List.getD_eq_getElem?_getD, List.getElem?_append_left h]
theorem frame_kind {t : L} (h : t.length = 508) : kind3 (Cr.frame t) = kind3 t := by unfold kind3; rw [frame_getD 0 (by omega)]
theorem frame_size {t : L} (h : t.length = 508) : size3 (Cr.frame t) = size3 t := by unfold size3; rw [frame_getD 1 (by omega), frame_getD 2 (by omega)]
theorem frame_inj {s t : L} (h : Cr.frame s = Cr.frame t) : s = t := by
  have := Cr.opn_frame s
  rw [h, Cr.opn_frame] at this
  exact (Prod.mk.inj this).1.symm
/-- The answer of Unpack, out of what is framed. -/
theorem unp_frame {t : L} (h : t.length = 508) : unp (Cr.frame t) = ofT t := by
  have hf : (Cr.frame t).length = 512 := by rw [Cr.frame_length, h]
  unfold ofT
  by_cases hc : kind3 t = 0 ∨ 505 < size3 t ∨ blank (t.drop (3 + size3 t)) = false
  · rw [if_pos hc]
    refine unp_no ?_
    rintro ⟨_, h2, h3⟩
    obtain ⟨p1, p2, p3, p4⟩ := pack_ok h3
    rw [frame_kind h] at p1 p4
    rw [frame_size h] at h2
    unfold octets at p4
    have p5 := frame_inj p4
    rw [Int.toNat_natCast] at p5
    rcases hc with hc | hc | hc
    · omega
    · omega
    · have hb : size3 t = (body3 (Cr.frame t)).length := by
        unfold body3
        rw [List.length_take, List.length_drop, hf, frame_size h]; omega
      have : blank (t.drop (3 + size3 t)) = true := by
        obtain ⟨y, hy⟩ : ∃ y, y = body3 (Cr.frame t) := ⟨_, rfl⟩
        rw [← hy] at p5 hb
        rw [hb, p5]
        unfold inner
        rw [show 3 + y.length = y.length + 3 by omega]
        simp only [List.drop_succ_cons]
        rw [List.drop_left]
        exact blank_rep _
      rw [this] at hc; cases hc
  · rw [if_neg hc]
    have h0 : kind3 t ≠ 0 := fun e => hc (.inl e)
    have h1 : size3 t ≤ 505 := Nat.not_lt.1 (fun e => hc (.inr (.inl e)))
    have h2 : blank (t.drop (3 + size3 t)) = true := by
      cases hb : blank (t.drop (3 + size3 t)) with
      | true => rfl
      | false => exact absurd (.inr (.inr hb)) hc
    have hi := inner_of h h1 h2
    have hbody : body3 (Cr.frame t) = (t.drop 3).take (size3 t) := by
      unfold body3
      rw [frame_size h]
      unfold Cr.frame
      rw [List.drop_append, List.take_append, show 3 - t.length = 0 by omega]
      rw [show size3 t - (t.drop 3).length = 0 by rw [List.length_drop]; omega, List.take_zero, List.append_nil]
    have hbl : ((t.drop 3).take (size3 t)).length = size3 t := by rw [List.length_take, List.length_drop]; omega
    rw [unp_yes ⟨hf, by rw [frame_size h]; exact h1, by
      rw [hbody, frame_kind h, pack_yes (by omega) (by have := kind_lt t; omega) (by rw [hbl]; exact h1)]
      unfold octets
      rw [← hi]⟩, frame_kind h, hbody]
theorem unp_bad {l : L} (h2 : (Cr.opn l).2 ≠ 0) : unp l = (0, [], false) := by
  refine unp_no ?_
  rintro ⟨_, _, h3⟩
  obtain ⟨_, _, _, p4⟩ := pack_ok h3
  apply h2
  rw [p4]
  unfold octets
  rw [Cr.opn_frame]
theorem opn_good {l : L} (h : l.length = 512) (h2 : (Cr.opn l).2 = 0) : ∃ t, t.length = 508 ∧ l = Cr.frame t ∧ (Cr.opn l).1 = t := by
  unfold Cr.opn at *
  rw [if_neg (by omega)] at *
  split at h2
  · rename_i hf
    rw [if_pos hf]
    exact ⟨_, by rw [List.length_take]; omega, hf, rfl⟩
  · cases h2
end Pg
