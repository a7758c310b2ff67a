/- What the program's package page is to answer, in one pack; the laws' joined and awake over it. -/
import Derived.Test.YtlipgphmhkjnpaaDoorPgR3
namespace Pg
theorem ex_pack : (pack 1 [97, 98]).2 = 0 ∧ (pack 1 [97, 98]).1.length = 512 ∧ (pack 1 [97, 98]).1.take 6 = [1, 0, 2, 97, 98, 0] := by
  have e : pack 1 [97, 98] = (octets 1 [97, 98], 0) := pack_yes (k := 1) (by decide) (by decide) (by decide)
  rw [e]
  refine ⟨rfl, octets_length (by decide), ?_⟩
  show (octets 1 [97, 98]).take 6 = _
  unfold octets Cr.frame inner
  rw [show 505 - ([97, 98] : L).length = 502 + 1 from rfl, List.replicate_succ]
  rfl
end Pg
namespace Go.Proofs.YtlipgphmhkjnpaaDoor
open Go.RowKit

structure Prog14 (Env : World → Prop) (Dev : World → Nat → Dv.S → (Nat → Prop) → Prop) : Prop where
  env : ∀ {w w' : World}, Env w → Below w.heap.size w w' → Env w'
  pack : ∀ (k : Int) (v : Value) (ls : List (List UInt8)) (w : World), BsIn w v ls → ls.flatten.length ≤ 1000000 → ls.length ≤ 1000 → -9223372036854775808 ≤ k ∧ k ≤ 9223372036854775807 → Env w →
    Calls Tryd.prog 9 #[.int .i64 k, v] w fun e w' => ∃ u, e = .returned (.tuple #[u, .int .i64 (Pg.pack k ls.flatten).2]) ∧ Below w.heap.size w w' ∧ BIn w' u (Pg.pack k ls.flatten).1 ∧ NilOk u
  unpack : ∀ (v : Value) (l : List UInt8) (w : World), BIn w v l → NilOk v → l.length ≤ 1000000 → Env w →
    Calls Tryd.prog 11 #[v] w fun e w' => ∃ u, e = .returned (.tuple #[.int .i64 ((Pg.unp l).1 : Int), u, .int .i64 (if (Pg.unp l).2.2 then 0 else 33)]) ∧ Below w.heap.size w w' ∧ BIn w' u (Pg.unp l).2.1 ∧ NilOk u
  sectors : ∀ (v : Value) (l : List UInt8) (w : World), BIn w v l → NilOk v → l.length ≤ 100000 → Env w →
    Calls Tryd.prog 27 #[v] w fun e w' => ∃ u, e = .returned u ∧ Below w.heap.size w w' ∧ BsIn w' u (Pg.sectors l)
  join : ∀ (v : Value) (ls : List (List UInt8)) (w : World), BsIn w v ls → ls.flatten.length ≤ 1000000 → ls.length ≤ 100000 → Env w →
    Calls Tryd.prog 28 #[v] w fun e w' => ∃ u, e = .returned u ∧ Below w.heap.size w w' ∧ BIn w' u ls.flatten ∧ NilOk u
  write : ∀ (g : Nat) (d : Dv.S) (F : Nat → Prop) (at_ k : Int) (v : Value) (ls : List (List UInt8)) (w : World), Dev w g d F → Fair d → BsOut F w v ls → ls.flatten.length ≤ 1000000 → ls.length ≤ 1000 → -9223372036854775808 ≤ at_ ∧ at_ ≤ 9223372036854775807 → -9223372036854775808 ≤ k ∧ k ≤ 9223372036854775807 → Env w →
    Calls Tryd.prog 17 #[.pointer (some ⟨g, 0, none⟩), .int .i64 at_, .int .i64 k, v] w fun e w' => ∃ F', e = .returned (.int .i64 (Pg.write d at_ k ls.flatten).2) ∧ Dev w' g (Pg.write d at_ k ls.flatten).1 F' ∧ Touch F w w' ∧ More F F' w
  write_nil : ∀ (at_ k : Int) (v : Value) (w : World), Env w →
    Calls Tryd.prog 17 #[.pointer none, .int .i64 at_, .int .i64 k, v] w fun e w' => e = .returned (.int .i64 1) ∧ Below w.heap.size w w'
  read : ∀ (g : Nat) (d : Dv.S) (F : Nat → Prop) (at_ : Int) (w : World), Dev w g d F → Fair d → -9223372036854775808 ≤ at_ ∧ at_ ≤ 9223372036854775807 → Env w →
    Calls Tryd.prog 18 #[.pointer (some ⟨g, 0, none⟩), .int .i64 at_] w fun e w' => ∃ F' u, e = .returned (.tuple #[.int .i64 ((Pg.read d at_).2.1 : Int), u, .int .i64 (Pg.read d at_).2.2.2]) ∧ Dev w' g (Pg.read d at_).1 F' ∧ Touch F w w' ∧ More F F' w ∧ BOut F' w' u (Pg.read d at_).2.2.1
  read_nil : ∀ (at_ : Int) (w : World), Env w →
    Calls Tryd.prog 18 #[.pointer none, .int .i64 at_] w fun e w' => ∃ x y, e = .returned (.tuple #[x, y, .int .i64 1]) ∧ Below w.heap.size w w'

section
variable {Env : World → Prop} {Dev : World → Nat → Dv.S → (Nat → Prop) → Prop}
set_option maxHeartbeats 1600000 in
set_option maxRecDepth 100000 in
theorem awake14 (P : Prog14 Env Dev) (w : World) (hE : Env w) :
    Calls Tryd.prog 8 #[] w fun e w' => e = .returned (.bool true) ∧ Below w.heap.size w w' := by
  obtain ⟨W1, hcv, hO, hb1⟩ := octets_block w #[.int .u8 97, .int .u8 98] [97, 98] rfl (by decide)
  have hcv' : (convert 23 23 (.slice (some ⟨w.heap.size, 0, none⟩) 2 2)).run Tryd.prog (w.alloc (.cells #[.int .u8 97, .int .u8 98] 5)) = .ok (.slice (some ⟨w.heap.size, 0, none⟩) 2 2) W1 := hcv
  have hbs := bs_lit W1 #[.slice (some ⟨w.heap.size, 0, none⟩) 2 2] [[97, 98]] 1 rfl (by decide) (fun j hj => by
    match j, hj with
    | 0, _ => exact ⟨_, rfl, hO, nil_ok _ _ _⟩)
  have hb2 := hb1.alloc hb1.size (.cells #[.slice (some ⟨w.heap.size, 0, none⟩) 2 2] 23)
  have c1 := P.pack 1 _ _ _ hbs (by decide) (by decide) (by decide) (P.env hE hb2)
  rw [List.flatten_singleton] at c1
  obtain ⟨x1, x2, x3⟩ := Pg.ex_pack
  rw [x1] at c1
  generalize (Pg.pack 1 [97, 98]).1 = X at *
  have HB := Lib.hid hb2
  have HX := Lib.hid (And.intro x2 x3)
  clear hcv hO hb1 hbs hE hb2 x1 x2 x3
  go_enter Tryd.func8, Tryd.ntmps8
  go_wp2_with fail
  refine c1.mono ?_
  rintro e w1 ⟨u, rfl, hbw, hX, hN⟩
  obtain ⟨ao, cap, rfl, hlc, hc9, hg⟩ := id hX
  have hcut := hX.cut 6 (by rw [HX.out.1]; decide)
  have hN6 : NilOk (.slice ao 6 cap) := fun c e => by
    injection e with e1 e2 e3
    subst e1
    rcases hg with h9 | ⟨b, o, h9, _⟩
    · have := HX.out.1; rw [h9] at this; cases this
    · cases h9
  have hrun := hcut.all hN6
  rw [HX.out.2] at hrun
  have hstr : str [1, 0, 2, 97, 98, 0] = { data := #[1, 0, 2, 97, 98, 0] } := rfl
  rw [hstr] at hrun
  rw [HX.out.1] at hlc ⊢
  have hlci : (6 : Int) ≤ cap := by omega
  have HBE := Lib.hid (bt5 HB.out hbw)
  clear hX hN hg hcut hN6 hbw c1
  go_wp2_with fail
  go_ret
  exact ⟨rfl, HBE.out⟩
end
end Go.Proofs.YtlipgphmhkjnpaaDoor
