/- The plain mathematics of pages, after the chapter's words: a page's octets, octets that are a page, sectors, pages on a device; nothing of any program. -/
import Derived.Test.YtlipgphmhkjnpaaDoorCrMath
import Derived.Test.YtlipgphmhkjnpaaDoorDvMath
namespace Pg
abbrev L := List UInt8
/-- What is framed: the kind, the length, the body, noughts. -/
def inner (k : Nat) (b : L) : L := UInt8.ofNat k :: UInt8.ofNat (b.length / 256) :: UInt8.ofNat (b.length % 256) :: (b ++ List.replicate (505 - b.length) 0)
def octets (k : Nat) (b : L) : L := Cr.frame (inner k b)
def pack (k : Int) (b : L) : L × Int := if k < 1 ∨ 255 < k then ([], 2) else if 505 < b.length then ([], 12) else (octets k.toNat b, 0)
def size3 (b : L) : Nat := 256 * (b.getD 1 0).toNat + (b.getD 2 0).toNat
def body3 (b : L) : L := (b.drop 3).take (size3 b)
def kind3 (b : L) : Nat := (b.getD 0 0).toNat
def unpack (b : L) : Option (Nat × L) := if b.length = 512 ∧ size3 b ≤ 505 ∧ pack (kind3 b) (body3 b) = (b, 0) then some (kind3 b, body3 b) else none
theorem inner_length {k : Nat} {b : L} (h : b.length ≤ 505) : (inner k b).length = 508 := by unfold inner; simp; omega
theorem octets_length {k : Nat} {b : L} (h : b.length ≤ 505) : (octets k b).length = 512 := by unfold octets; rw [Cr.frame_length, inner_length h]
theorem octets_head (k : Nat) (b : L) : ∃ r, octets k b = UInt8.ofNat k :: UInt8.ofNat (b.length / 256) :: UInt8.ofNat (b.length % 256) :: (b ++ r) := ⟨_, by unfold octets Cr.frame inner; simp only [List.cons_append, List.append_assoc]; rfl⟩
theorem pack_ok {k : Int} {b x : L} (h : pack k b = (x, 0)) : 1 ≤ k ∧ k ≤ 255 ∧ b.length ≤ 505 ∧ x = octets k.toNat b := by
  unfold pack at h
  split at h
  · cases h
  · split at h
    · cases h
    · cases h; exact ⟨by omega, by omega, by omega, rfl⟩
theorem pack_yes {k : Nat} {b : L} (h1 : 1 ≤ k) (h2 : k ≤ 255) (h3 : b.length ≤ 505) : pack (k : Int) b = (octets k b, 0) := by
  unfold pack; rw [if_neg (by omega), if_neg (by omega), Int.toNat_natCast]
theorem pack_bad {k : Int} {b : L} (h : (pack k b).2 ≠ 0) : (pack k b).1 = [] := by
  unfold pack at *
  split
  · rfl
  · rename_i h1
    rw [if_neg h1] at h
    split
    · rfl
    · rename_i h2; rw [if_neg h2] at h; exact absurd rfl h
theorem pack_len {k : Int} {b : L} (h : (pack k b).2 = 0) : (pack k b).1.length = 512 := by
  have e : pack k b = ((pack k b).1, 0) := by rw [← h]
  obtain ⟨_, _, h3, h4⟩ := pack_ok e
  rw [h4, octets_length h3]
theorem octets_size {k : Nat} {b : L} (h : b.length ≤ 505) : size3 (octets k b) = b.length := by
  obtain ⟨r, e⟩ := octets_head k b
  unfold size3
  rw [e]
  simp only [List.getD_cons_succ, List.getD_cons_zero, UInt8.toNat_ofNat']
  omega
theorem octets_kind {k : Nat} {b : L} (h : k ≤ 255) : kind3 (octets k b) = k := by
  obtain ⟨r, e⟩ := octets_head k b
  unfold kind3
  rw [e]
  simp only [List.getD_cons_zero, UInt8.toNat_ofNat']
  omega
theorem octets_body {k : Nat} {b : L} (h : b.length ≤ 505) : body3 (octets k b) = b := by
  unfold body3
  rw [octets_size h]
  obtain ⟨r, e⟩ := octets_head k b
  rw [e]
  simp
/-- What is packed is unpacked. -/
theorem unpack_pack {k : Int} {b x : L} (h : pack k b = (x, 0)) : unpack x = some (k.toNat, b) := by
  obtain ⟨h1, h2, h3, rfl⟩ := pack_ok h
  unfold unpack
  rw [octets_kind (by omega), octets_body h3, octets_size h3, if_pos ⟨octets_length h3, h3, pack_yes (by omega) (by omega) h3⟩]
theorem unpack_some {b c : L} {k : Nat} (h : unpack b = some (k, c)) : b.length = 512 ∧ k = kind3 b ∧ c = body3 b ∧ size3 b ≤ 505 ∧ 1 ≤ k ∧ k ≤ 255 ∧ b = octets k c := by
  unfold unpack at h
  split at h
  · rename_i h9
    obtain ⟨h1, h2, h3⟩ := h9
    cases h
    obtain ⟨h4, h5, h6, h7⟩ := pack_ok h3
    exact ⟨h1, rfl, rfl, h2, by omega, by omega, by rw [Int.toNat_natCast] at h7; exact h7⟩
  · cases h
/-- Unlike pages have unlike octets. -/
theorem pack_inj {k k' : Int} {b b' x : L} (h : pack k b = (x, 0)) (h' : pack k' b' = (x, 0)) : k = k' ∧ b = b' := by
  have e := unpack_pack h
  rw [unpack_pack h'] at e
  simp only [Option.some.injEq, Prod.mk.injEq] at e
  obtain ⟨h1, _⟩ := pack_ok h
  obtain ⟨h2, _⟩ := pack_ok h'
  exact ⟨by omega, e.2.symm⟩

/-! ### sectors -/
def pad (x : L) : L := x ++ List.replicate (64 - x.length) 0
def secs : Nat → L → List L
  | 0, _ => []
  | n + 1, b => pad (b.take 64) :: secs n (b.drop 64)
def sectors (b : L) : List L := secs ((b.length + 63) / 64) b
theorem secs_length : ∀ (n : Nat) (b : L), (secs n b).length = n
  | 0, _ => rfl
  | n + 1, b => by show (secs n (b.drop 64)).length + 1 = _; rw [secs_length n]
theorem sectors_length (b : L) : (sectors b).length = (b.length + 63) / 64 := secs_length _ _
theorem secs_at : ∀ (n : Nat) (b : L) (i : Nat), i < n → (secs n b)[i]? = some (pad ((b.drop (64 * i)).take 64))
  | 0, _, _, h => by cases h
  | n + 1, b, 0, _ => by simp [secs]
  | n + 1, b, i + 1, h => by
    have h1 := secs_at n (b.drop 64) i (by omega)
    show (secs n (b.drop 64))[i]? = _
    rw [h1, List.drop_drop]
    congr 4
    omega
theorem pad_length {x : L} (h : x.length ≤ 64) : (pad x).length = 64 := by unfold pad; rw [List.length_append, List.length_replicate]; omega
theorem pad_full {x : L} (h : x.length = 64) : pad x = x := by unfold pad; rw [h]; simp
theorem secs_64 (n : Nat) (b : L) : ∀ x ∈ secs n b, x.length = 64 := by
  induction n generalizing b with
  | zero => intro x hx; cases hx
  | succ n ih =>
    intro x hx
    rcases List.mem_cons.1 (show x ∈ pad (b.take 64) :: secs n (b.drop 64) from hx) with rfl | hx
    · exact pad_length (by rw [List.length_take]; omega)
    · exact ih _ x hx
theorem secs_flat : ∀ (n : Nat) (b : L), b.length ≤ 64 * n → (secs n b).flatten = b ++ List.replicate (64 * n - b.length) 0
  | 0, b, h => by
    have : b = [] := List.eq_nil_of_length_eq_zero (by omega)
    subst this; rfl
  | n + 1, b, h => by
    show (pad (b.take 64) :: secs n (b.drop 64)).flatten = _
    rw [List.flatten_cons, secs_flat n (b.drop 64) (by rw [List.length_drop]; omega)]
    by_cases h64 : 64 ≤ b.length
    · rw [pad_full (by rw [List.length_take]; omega), ← List.append_assoc, List.take_append_drop, List.length_drop]
      congr 2
      omega
    · rw [List.take_of_length_le (by omega), List.drop_of_length_le (by omega)]
      unfold pad
      rw [List.nil_append, List.append_assoc, List.length_nil, List.replicate_append_replicate]
      congr 2
      omega
theorem sectors_flat (b : L) : (sectors b).flatten = b ++ List.replicate (64 * ((b.length + 63) / 64) - b.length) 0 := secs_flat _ _ (by omega)
theorem flat_64 {ls : List L} (h : ∀ x ∈ ls, x.length = 64) : ls.flatten.length = 64 * ls.length := by
  induction ls with
  | nil => rfl
  | cons x l ih =>
    rw [List.flatten_cons, List.length_append, ih (fun y hy => h y (List.mem_cons_of_mem _ hy)), h x (List.mem_cons_self ..), List.length_cons]
    omega
/-- A page's octets are eight sectors. -/
theorem sectors_512 {b : L} (h : b.length = 512) : (sectors b).length = 8 ∧ (sectors b).flatten = b := by
  refine ⟨by rw [sectors_length, h], ?_⟩
  rw [sectors_flat, h]
  simp
theorem sectors_64 (b : L) : ∀ x ∈ sectors b, x.length = 64 := secs_64 _ _

/-! ### pages on a device -/
open Dv in
def write (d : S) (at_ k : Int) (b : L) : S × Int := if (pack k b).2 ≠ 0 then (d, (pack k b).2) else Dv.write d at_ (sectors (pack k b).1)
def told (r : Dv.S × List Dv.Sec × Int) : Dv.S × Nat × L × Int :=
  if r.2.2 ≠ 0 then (r.1, 0, [], r.2.2)
  else match unpack r.2.1.flatten with
    | some (k, b) => (r.1, k, b, 0)
    | none => (r.1, 0, [], 33)
def read (d : Dv.S) (at_ : Int) : Dv.S × Nat × L × Int := told (Dv.read d at_ 8)
end Pg
