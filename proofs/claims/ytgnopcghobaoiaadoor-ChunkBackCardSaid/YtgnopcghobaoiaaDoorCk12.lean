/- The statements of layer 7: ChunkBack. -/
import Derived.Test.YtgnopcghobaoiaaDoorCk11
import Derived.Test.YtgnopcghobaoiaaDoorCk8
namespace Ck
theorem hex_no13 (n : Nat) : ∀ c ∈ Oct.print n 16, c ≠ 13 := by
  have h := Oct.dgs_dig 16 (by decide) (by decide) n
  unfold Oct.allOf at h
  intro c hc
  have := Oct.all_octets (fun c => !Oct.dig 16 c || decide (c ≠ 13)) (by decide +kernel) c
  have hd : Oct.dig 16 c = true := List.all_eq_true.1 h c hc
  simpa [hd] using this
theorem flat_len : ∀ (ls : List L), (∀ p ∈ ls, p.length ≤ 500) → ls.flatten.length ≤ 500 * ls.length
  | [], _ => by simp
  | p :: ls, h => by
    rw [List.flatten_cons, List.length_append, List.length_cons]
    have h1 := h p (by simp)
    have := flat_len ls (fun q hq => h q (by simp [hq]))
    omega
theorem one_len {p : L} (h : p.length ≤ 500) : (chunkOf p).length ≤ 520 := by
  by_cases h0 : p = []
  · subst h0; decide
  · have h3 : (Oct.print p.length 16).length ≤ 3 := hex_len 2 p.length (by omega)
    unfold chunkOf; rw [if_neg h0]; simp; omega
theorem enc_len : ∀ (ls : List L), (∀ p ∈ ls, p.length ≤ 500) → (ls.flatMap chunkOf).length ≤ 520 * ls.length
  | [], _ => by simp
  | p :: ls, h => by
    rw [List.flatMap_cons, List.length_append, List.length_cons]
    have h1 := one_len (h p (by simp))
    have := enc_len ls (fun q hq => h q (by simp [hq]))
    omega
theorem odd_one {z : Nat} (hz : z ≤ 4) {p : L} (h : p.length ≤ 500) : (oddOf z p).length ≤ 530 := by
  by_cases h0 : p = []
  · subst h0; unfold oddOf; simp
  · have h3 : (Oct.print p.length 16).length ≤ 3 := hex_len 2 p.length (by omega)
    unfold oddOf oddLine ext5; rw [if_neg h0]; simp; omega
theorem odd_len {z : Nat} (hz : z ≤ 4) : ∀ (ls : List L), (∀ p ∈ ls, p.length ≤ 500) → (ls.flatMap (oddOf z)).length ≤ 530 * ls.length
  | [], _ => by simp
  | p :: ls, h => by
    rw [List.flatMap_cons, List.length_append, List.length_cons]
    have h1 := odd_one hz (h p (by simp))
    have := odd_len hz ls (fun q hq => h q (by simp [hq]))
    omega
theorem odd_snoc (z : Nat) (ls : List L) (k : Nat) (hk : k < ls.length) : (ls.take (k + 1)).flatMap (oddOf z) = (ls.take k).flatMap (oddOf z) ++ oddOf z ls[k] := by
  rw [List.take_add_one, List.getElem?_eq_getElem hk, List.flatMap_append]
  simp
theorem flat_snoc (ls : List L) (k : Nat) (hk : k < ls.length) : (ls.take (k + 1)).flatten = (ls.take k).flatten ++ ls[k] := by
  rw [List.take_add_one, List.getElem?_eq_getElem hk, List.flatten_append]
  simp
theorem small_snoc {ls : List L} {k : Nat} (hk : k < ls.length) (h : ∀ p ∈ ls.take k, p.length ≤ 500) (hp : ls[k].length ≤ 500) : ∀ p ∈ ls.take (k + 1), p.length ≤ 500 := by
  intro p hm
  rw [List.take_add_one, List.getElem?_eq_getElem hk] at hm
  rcases List.mem_append.1 hm with h1 | h1
  · exact h p h1
  · simp at h1; subst h1; exact hp
/-- A chunk's size line, octet by octet. -/
theorem enc_at {p : L} (h0 : p ≠ []) : ∃ x : L, encode [p] = Oct.print p.length 16 ++ 13 :: x := by
  refine ⟨[10] ++ p ++ [13, 10] ++ [48, 13, 10, 13, 10], ?_⟩
  unfold encode chunkOf
  simp [h0]
theorem at_digit {hx en x : L} (he : en = hx ++ 13 :: x) (h13 : ∀ c ∈ hx, c ≠ 13) {j : Nat} (hj : j < hx.length) : ∃ hj2 : j < en.length, en[j] ≠ 13 ∧ hx.take (j + 1) = hx.take j ++ [en[j]] := by
  subst he
  refine ⟨by rw [List.length_append]; omega, ?_, ?_⟩
  · rw [List.getElem_append_left hj]; exact h13 _ (List.getElem_mem hj)
  · rw [List.getElem_append_left hj, List.take_add_one, List.getElem?_eq_getElem hj]; rfl
theorem at_end {hx en x : L} (he : en = hx ++ 13 :: x) : ∃ hj2 : hx.length < en.length, en[hx.length] = 13 := by
  subst he
  refine ⟨by rw [List.length_append, List.length_cons]; omega, ?_⟩
  rw [List.getElem_append_right (Nat.le_refl _)]
  simp
theorem oddOf_eq {z : Nat} {p : L} (h0 : p ≠ []) (pre : L) : pre ++ List.replicate z 48 ++ Oct.print p.length 16 ++ [32, 59, 120, 61, 34, 121, 34, 13, 10] ++ p ++ [13, 10] = pre ++ oddOf z p := by
  unfold oddOf oddLine ext5
  rw [if_neg h0]
  simp
end Ck
namespace Go.Proofs.YtgnopcghobaoiaaDoor
open Go.RowKit

section
variable {P : Program} {ops : Array Oper} {S : World → Prop} {K : Act → Prop}
/-- A guarded operation that is wanted. -/
theorem Takes.val_if {i : Nat} {is : List Nat} {a : Act} {o : Oper} (v : Value) (ho : ops[i]? = some o) (hw : Region.wanted o (yielded ops a.tmps) = true) (hr : ∀ w, S w → (execOp a.eval o).run P w = .ok (.value v) w) (h : Takes P ops S K is (a.put o.dst v)) : Takes P ops S K (i :: is) a :=
  ⟨o, v, ho, .inl ⟨hw, hr⟩, h⟩
theorem exec_convert {o : Oper} {a : Act} {w : World} {src dst : TypeId} {x : Operand} {u v : Value} (ho : o.op = .convert src dst x) (hx : a.eval x = u) (hr : (convert src dst u).run P w = .ok v w) : (execOp a.eval o).run P w = .ok (.value v) w := by
  unfold execOp
  simp only [ho, hx, Sem.run_bind, hr, Result.andThen_ok, Sem.run_pure]
theorem exec_eqs {o : Oper} {a : Act} {w : World} {T U : TypeId} {x y : Operand} {s : ByteArray} (ho : o.op = .binOp .eql T x y U) (hx : a.eval x = .string s) (hy : a.eval y = .string s) : (execOp a.eval o).run P w = .ok (.value (.bool true)) w := by
  unfold execOp
  simp [ho, hx, hy, eqGuard, binOp, Op.stringOp]
theorem exec_eqi {o : Oper} {a : Act} {w : World} {T U : TypeId} {x y : Operand} {n : Int} (ho : o.op = .binOp .eql T x y U) (hx : a.eval x = .int .i64 n) (hy : a.eval y = .int .i64 n) : (execOp a.eval o).run P w = .ok (.value (.bool true)) w := by
  unfold execOp
  simp [ho, hx, hy, eqGuard, binOp, Op.intCmp]
end
/-- What the program's Decode and Encode answer, and that it is new memory. -/
structure Back7 (Env : World → Prop) : Prop extends Prog7 Env where
  decode_new : ∀ (v : Value) (l : List UInt8) (w : World), l.length ≤ 2000000 → BIn w v l → Env w →
    Calls Tryd.prog 9 #[v] w fun e w' => (∃ u, e = .returned (.tuple #[u, .int .i64 (Ck.decode l).2.1, .int .i64 (Ck.decode l).2.2]) ∧ BIn w' u (Ck.decode l).1 ∧ NilOk u ∧ NewAt w.heap.size u) ∧ Below w.heap.size w w'
  encode_new : ∀ (v : Value) (ls : List (List UInt8)) (w : World), (Ck.encode ls).length ≤ 2000000 → BsIn w v ls → Env w →
    Calls Tryd.prog 14 #[v] w fun e w' => (∃ u, e = .returned u ∧ BIn w' u (Ck.encode ls) ∧ NilOk u ∧ NewAt w.heap.size u) ∧ Below w.heap.size w w'
/-- An octet of a row of the call's own. -/
theorem Buf.cell_at {W w : World} {g n cap : Nat} {l : List UInt8} (h : Buf W w (.slice (some ⟨g, 0, none⟩) n cap) l) (j : Nat) (hj : j < l.length) : w.cell? ⟨g, j, none⟩ = some (.int .u8 (l[j].toNat : Int)) := by
  obtain ⟨ao, c, e, _, _, hg⟩ := h.in_.1
  injection e with e1 e2 e3
  rcases hg with h0 | ⟨b, o, h1, hb, hc⟩
  · subst h0; simp at hj
  · rw [h1] at e1
    cases e1
    have := hc j hj
    rwa [Nat.zero_add] at this
theorem Buf.made {W w : World} {v : Value} {l : List UInt8} (h : Buf W w v l) (hl : l ≠ []) : ∃ g cap, v = .slice (some ⟨g, 0, none⟩) l.length cap ∧ l.length ≤ cap := by
  rcases h.1.2 with ⟨h0, h1⟩ | ⟨g, cap, cur, hv, hg, hh, h1, rest⟩
  · cases l with
    | nil => exact absurd rfl hl
    | cons c t => simp at h1
  · exact ⟨g, cap, hv, h1⟩
theorem cut48 (k : Nat) (hk : k ≤ 4) : ((⟨#[48, 48, 48, 48]⟩ : ByteArray).extract 0 k).data.toList = List.replicate k 48 ∧ ((⟨#[48, 48, 48, 48]⟩ : ByteArray).extract 0 k).size = k := by
  match k, hk with
  | 0, _ => exact ⟨rfl, rfl⟩
  | 1, _ => exact ⟨rfl, rfl⟩
  | 2, _ => exact ⟨rfl, rfl⟩
  | 3, _ => exact ⟨rfl, rfl⟩
  | 4, _ => exact ⟨rfl, rfl⟩

set_option maxHeartbeats 6400000 in
set_option maxRecDepth 100000 in
theorem kback_w {Env : World → Prop} (P : Back7 Env) (v : Value) (ls : List (List UInt8)) (v2 : Value) (t : List UInt8) (d : Int) (w : World) (h : BsIn w v ls) (h2 : BIn w v2 t) (hnil2 : NilOk v2) (hE : Env w) :
    Calls Tryd.prog 5 #[v, v2, .int .i64 d] w fun e w' => e = .returned (.bool true) ∧ Below w.heap.size w w' := by
  have HV := Lib.hid h
  have HT := Lib.hid h2
  have HNIL := Lib.hid hnil2
  have HE := Lib.hid hE
  have HP := Lib.hid P
  have cA := fun (W : World) (hb : Below w.heap.size w W) => kawake_w P.toProg7 W (P.later hE hb)
  have hwb : Below w.heap.size w w := Below.refl _ _
  obtain ⟨ao, c, rfl, hlc, hc9, hg⟩ := h
  obtain ⟨ao2, c2, rfl, hlc2, hc92, _⟩ := h2
  have HG := Lib.hid hg
  obtain ⟨N, hN⟩ : ∃ N, N = ls.length := ⟨_, rfl⟩
  obtain ⟨T, hT⟩ : ∃ T, T = t.length := ⟨_, rfl⟩
  have HN := Lib.hid hN
  have HTl := Lib.hid hT
  rw [← hN] at hlc HV ⊢
  rw [← hT] at hlc2 HT HNIL ⊢
  clear hnil2 hE P hg
  by_cases h9 : (30 : Int) < N
  · clear hN hT
    go_enter Tryd.func5, Tryd.ntmps5
    go_wp2_with fail
    refine (cA w hwb).mono ?_
    rintro e w1 ⟨rfl, hb1⟩
    go_wp2_with fail
    refine (cA w1 hb1).mono ?_
    rintro e w2 ⟨rfl, hb2⟩
    go_wp2_with fail
    go_ret
    exact ⟨rfl, hb1.trans (hb2.mono hb1.size)⟩
  by_cases h92 : (300 : Int) < T
  · clear hN hT
    go_enter Tryd.func5, Tryd.ntmps5
    go_wp2_with fail
    refine (cA w hwb).mono ?_
    rintro e w1 ⟨rfl, hb1⟩
    go_wp2_with fail
    refine (cA w1 hb1).mono ?_
    rintro e w2 ⟨rfl, hb2⟩
    go_wp2_with fail
    go_ret
    exact ⟨rfl, hb1.trans (hb2.mono hb1.size)⟩
  have hN30 : N ≤ 30 := by omega
  have HT3 := Lib.hid (by omega : T ≤ 300)
  obtain ⟨q, k, q1, q2, q3, q4, q5, q6⟩ := cut_at d 5 (by decide) (by decide)
  have q1 : d.tmod 5 = q := q1
  have q3 : IntKind.i64.wrap (q + 5) = q + 5 := q3
  have q4 : (q + 5).tmod 5 = (k : Int) := q4
  have hk4 : (k : Int) ≤ 4 := by omega
  have hk0 : (0 : Int) ≤ k := by omega
  have HK := Lib.hid (by omega : k ≤ 4)
  have hkz := cut48 k (by omega)
  have HKZ := Lib.hid hkz
  clear hN hT q6 hkz
  go_enter Tryd.func5, Tryd.ntmps5
  go_wp2_with fail
  refine (cA w hwb).mono ?_
  rintro e1 w1 ⟨rfl, hb1⟩
  clear cA hwb
  go_upto_region 5 with fail
  clear q1 q2 q3 q4 q5
  clear h9 h92
  generalize hZ : (ByteArray.extract _ _ _) = Z
  rw [hZ] at HKZ
  have hZs : Z.size = k := HKZ.out.2
  have HZ := Lib.hid HKZ.out.1
  have HZs := Lib.hid hZs
  clear HKZ hZ hZs
  go_wp2_with fail
  go_loopw [7, 8, 10] (fun x7 x8 x10 wr => ∃ i : Nat, i ≤ N ∧ x10 = .int .i64 i ∧ (∀ p ∈ ls.take i, p.length ≤ 500) ∧ Buf w wr x7 (ls.take i).flatten ∧ Buf w wr x8 ((ls.take i).flatMap (Ck.oddOf k)) ∧ Asun x8 x7) (fun _ _ x10 _ => N - (intOf x10).toNat)
  case atStart => exact ⟨0, Nat.zero_le _, rfl, fun p hp => (by simp at hp), ⟨World.ownsRow_nil _ _ _ _, hb1⟩, ⟨World.ownsRow_nil _ _ _ _, hb1⟩, Asun.nil _⟩
  case round =>
    clear hb1
    obtain ⟨i, hi, rfl, hsm, hA, hO, hAs⟩ := hrel
    have hi0 : (0 : Int) ≤ i := by omega
    have HSM := Lib.hid hsm
    clear hsm
    by_cases hlt : i < N
    · have hki : (i : Int) < N := by omega
      obtain ⟨b, o, hao, hbl, hcell⟩ := HG.out.resolve_left (fun x => by have := HN.out; rw [x] at this; simp at this; omega)
      subst hao
      have k0 : i < ls.length := by rw [← HN.out]; exact hlt
      obtain ⟨u, hu, hbin, hnil⟩ := hcell i k0
      have HFS := Lib.hid (Ck.flat_snoc ls i k0)
      have HOS := Lib.hid (Ck.odd_snoc k ls i k0)
      have HSS := Lib.hid (Ck.small_snoc k0 HSM.out)
      have hF9 := Ck.flat_len _ HSM.out
      have hO9 := Ck.odd_len HK.out _ HSM.out
      rw [List.length_take] at hF9 hO9
      clear hcell
      have hbin0 := hbin
      generalize hpe : ls[i] = p at *
      have HPE := Lib.hid hpe
      obtain ⟨a2, pc, rfl, _, _, _⟩ := hbin
      have c0 := (hO.2.cell (p := ⟨b, o + i, none⟩) hbl).trans hu
      obtain ⟨pl, hpl⟩ : ∃ pl, pl = p.length := ⟨_, rfl⟩
      have HPL := Lib.hid hpl
      have HBP := Lib.hid hbin0
      rw [← hpl] at hnil c0 hu HBP
      generalize (ls.take i).flatten = fl at *
      generalize (ls.take i).flatMap (Ck.oddOf k) = od at *
      by_cases hbig : (500 : Int) < pl
      · have hb9 := hO.2
        go_wp2_with fail
        go_ret
        exact ⟨rfl, hb9⟩
      have hl1 : fl.length + p.length ≤ 1000000000 := by omega
      have hp5 : p.length ≤ 500 := by omega
      have hod : od.length ≤ 100000 := by omega
      have HSS2 := Lib.hid (HSS.out hp5)
      have HL1 := Lib.hid hl1
      have HP5 := Lib.hid hp5
      have HOD := Lib.hid hod
      clear hF9 hO9 HSS hpl hl1 hp5 hod hpe hbin0
      go_upto_region 11 with (at_builtin; refine appBAt hA (HBP.out.later hA.2) hnil HL1.out rfl (.tmp 50) (.tmp 54) rfl rfl rfl ?_; intro v3 w3 hA3 hg3 hat3)
      have hO3 := hO.other hg3 hA3.2 hAs.symm
      have hAs3 := (hAs.symm.next hO hat3).symm
      have c3 := (hO3.2.cell (p := ⟨b, o + i, none⟩) hbl).trans hu
      clear c0 hA hO hAs hg3 hat3
      by_cases hp : p = []
      · have hpl0 : pl = 0 := by rw [HPL.out, hp]; rfl
        have HF2 : Hid ((ls.take (i + 1)).flatten = fl ++ p) := HFS
        have HO2 : Hid ((ls.take (i + 1)).flatMap (Ck.oddOf k) = od) := Lib.hid (by rw [HOS.out, hp]; simp [Ck.oddOf])
        subst hpl0
        clear hnil hu HPL hbig
        go_wp2_with fail
        go_round
        case rel => exact ⟨i + 1, by omega, by go_num, HSS2.out, by rw [HF2.out]; exact hA3, by rw [HO2.out]; exact hO3, hAs3⟩
        case measure => simp [intOf]; omega
      · have hp0 : (0 : Int) < pl := by have := HPL.out; have := List.length_pos_iff.2 hp; omega
        obtain ⟨x, hen⟩ := Ck.enc_at hp
        have h13 := Ck.hex_no13 p.length
        have hx3 : (Oct.print p.length 16).length ≤ 3 := Ck.hex_len 2 p.length (by have := HP5.out; omega)
        have hen9 : (Ck.encode [p]).length ≤ 600 := by have := encode_one_len p (by have := HP5.out; omega); have := HP5.out; omega
        have HEQ := Lib.hid (Ck.oddOf_eq (z := k) hp od)
        have hel : BsIn w (.slice (some ⟨b, o + i, none⟩) 1 (c - i)) [p] := ⟨_, c - i, rfl, by simp; omega, by omega, .inr ⟨b, o + i, rfl, hbl, fun j hj => by
          have hj0 : j = 0 := by simpa using hj
          subst hj0
          exact ⟨_, hu, HBP.out, hnil⟩⟩⟩
        have cE := fun (W : World) (hb : Below w.heap.size w W) => rEncode_b (.slice (some ⟨b, o + i, none⟩) 1 (c - i)) [p] W (by omega) (hel.later hb)
        have hen0 : Ck.encode [p] ≠ [] := by rw [hen]; simp
        generalize Oct.print p.length 16 = hx at *
        generalize Ck.encode [p] = en at *
        obtain ⟨H, hH⟩ : ∃ H, H = hx.length := ⟨_, rfl⟩
        obtain ⟨EL, hEL⟩ : ∃ EL, EL = en.length := ⟨_, rfl⟩
        have HH := Lib.hid hH
        have HEL := Lib.hid hEL
        have HEN := Lib.hid hen
        have H13 := Lib.hid h13
        have HX3 := Lib.hid hx3
        have HL5 := Lib.hid (by have := HOD.out; have := HZs.out; have := HK.out; omega : od.length + Z.size ≤ 100000000000)
        have HL6 := Lib.hid (by
          intro (j : Nat)
          have := HOD.out; have := HK.out; have := List.length_take_le' j hx
          rw [List.length_append, List.length_append, List.length_replicate]; show _ + 1 ≤ _; omega : ∀ j : Nat, (od ++ List.replicate k 48 ++ hx.take j).length + 1 ≤ 100000000)
        have HL7 := Lib.hid (by
          have := HOD.out; have := HK.out
          rw [List.length_append, List.length_append, List.length_replicate]; show _ + 9 ≤ _; omega : (od ++ List.replicate k 48 ++ hx).length + 9 ≤ 100000000000)
        have HL8 := Lib.hid (by
          have := HOD.out; have := HK.out; have := HP5.out
          rw [List.length_append, List.length_append, List.length_append, List.length_replicate]; show _ + 9 + _ ≤ _; omega : (od ++ List.replicate k 48 ++ hx ++ [32, 59, 120, 61, 34, 121, 34, 13, 10]).length + p.length ≤ 1000000000)
        have HL9 := Lib.hid (by
          have := HOD.out; have := HK.out; have := HP5.out
          rw [List.length_append, List.length_append, List.length_append, List.length_append, List.length_replicate]; show _ + 9 + _ + 2 ≤ _; omega : (od ++ List.replicate k 48 ++ hx ++ [32, 59, 120, 61, 34, 121, 34, 13, 10] ++ p).length + 2 ≤ 100000000000)
        have hk1 : (i : Int) + 1 ≤ c := by omega
        have hk2 : (i : Int) ≤ (i : Int) + 1 := by omega
        have hs1 : ((i : Int) + 1 - i).toNat = 1 := by omega
        clear hen h13 hx3 hH hEL hel hen9
        go_wp2_with fail
        refine (cE w3 hO3.2).mono ?_
        rintro e4 w4 ⟨⟨u4, rfl, hU⟩, hb4⟩
        have hA4 := hA3.later hb4
        have hO4 := hO3.later hb4
        have hU4 := hU.based hA3.2
        have asU := hO3.apart hU (Nat.le_refl _)
        have c4 := (hO4.2.cell (p := ⟨b, o + i, none⟩) hbl).trans hu
        obtain ⟨g, ucap, rfl, hucap⟩ := hU4.made hen0
        rw [← HEL.out] at hucap hU4 asU ⊢
        clear c3 hA3 hO3 hU hb4 cE hen0 hk1 hk2 hs1
        go_upto_region 14 with (at_builtin; refine appSAt hO4 Z HL5.out rfl (.tmp 68) (.tmp 69) rfl rfl rfl ?_; intro v5 w5 hO5 hg5 hat5)
        have hA5 := hA4.other hg5 hO5.2 hAs3
        have hU5 := hU4.other hg5 hO5.2 asU
        have as1 := hAs3.next hA4 hat5
        have as2 := asU.next hU4 hat5
        rw [HZ.out] at hO5
        clear c4 hA4 hU4 hO4 hg5 hat5 asU hAs3
        go_wp2_with fail
        go_loopw [8, 12] (fun x8 x12 wi => ∃ j : Nat, j ≤ H ∧ x12 = .int .i64 j ∧ Buf w wi v3 (fl ++ p) ∧ Buf w wi (.slice (some ⟨g, 0, none⟩) EL ucap) en ∧ Buf w wi x8 (od ++ List.replicate k 48 ++ hx.take j) ∧ Asun x8 v3 ∧ Asun x8 (.slice (some ⟨g, 0, none⟩) EL ucap)) (fun _ x12 _ => H - (intOf x12).toNat)
        case atStart => exact ⟨0, Nat.zero_le _, rfl, hA5, hU5, by rw [List.take_zero, List.append_nil]; exact hO5, as1, as2⟩
        case round =>
          clear hA5 hU5 hO5 as1 as2
          obtain ⟨j, hj, rfl, hA6, hU6, hO6, as1, as2⟩ := hrel
          have hj0 : (0 : Int) ≤ j := by omega
          by_cases hjt : j < H
          · obtain ⟨hj2, hne13, htk⟩ := Ck.at_digit HEN.out H13.out (j := j) (by rw [← HH.out]; exact hjt)
            have cu := hU6.cell_at j hj2
            have hjE : (j : Int) < EL := by have := HEL.out; omega
            have hl6 : (od ++ List.replicate k 48 ++ hx.take j).length + [en[j]].length ≤ 1000000000 := by have := HL6.out j; show _ + 1 ≤ _; omega
            have hj3 : (j : Int) ≤ 3 := by have := HX3.out; have := HH.out; omega
            have HTK := Lib.hid htk
            clear htk
            generalize en[j] = ch at *
            have hch : ¬ (ch.toNat : Int) = 13 := fun e => hne13 (UInt8.toNat_inj.1 (show ch.toNat = 13 by omega))
            have hlit := bin_lit wr #[.int .u8 (ch.toNat : Int)] [ch] 1 rfl rfl (by decide)
            go_wp2_with (at_builtin; refine appBAt (hO6.alloc _) hlit (nil_ok _ _ _) hl6 rfl (.tmp 78) (.tmp 83) rfl rfl rfl ?_; intro v7 w7 hO7 hg7 hat7)
            have hA7 := (hA6.alloc _).other hg7 hO7.2 as1
            have hU7 := (hU6.alloc _).other hg7 hO7.2 as2
            have as17 := as1.next (hA6.alloc _) hat7
            have as27 := as2.next (hU6.alloc _) hat7
            go_round
            case rel => exact ⟨j + 1, by omega, by go_num, hA7, hU7, by rw [HTK.out, ← List.append_assoc]; exact hO7, as17, as27⟩
            case measure => simp [intOf]; omega
          · have hjH : j = hx.length := by rw [← HH.out]; omega
            obtain ⟨hj2, he13⟩ := Ck.at_end HEN.out
            have cu := hU6.cell_at _ hj2
            rw [he13, ← hjH] at cu
            have htk : hx.take j = hx := by rw [hjH]; exact List.take_length
            rw [htk] at hO6
            have hjE : (j : Int) < EL := by have := HEL.out; omega
            have cu : wr.cell? ⟨g, j, none⟩ = some (.int .u8 13) := cu
            have c6 := (hO6.2.cell (p := ⟨b, o + i, none⟩) hbl).trans hu
            clear hjH htk he13 hj2
            go_upto_region 19 with (at_builtin; refine appSAt hO6 ⟨#[32, 59, 120, 61, 34, 121, 34, 13, 10]⟩ HL7.out rfl (.tmp 85) (.const (.string ⟨#[32, 59, 120, 61, 34, 121, 34, 13, 10]⟩)) rfl rfl rfl ?_; intro v8 w8 hO8 hg8 hat8)
            have hA8 := hA6.other hg8 hO8.2 as1
            have as8 := as1.next hA6 hat8
            have c8 := (hO8.2.cell (p := ⟨b, o + i, none⟩) hbl).trans hu
            clear cu c6 hA6 hU6 hO6 hg8 hat8 as1 as2
            go_wp2_with (first
              | (at_builtin; refine appBAt hO8 (HBP.out.later hO8.2) hnil HL8.out rfl (.tmp 87) (.tmp 91) rfl rfl rfl ?_; intro v9 w9 hO9 hg9 hat9)
              | (at_builtin; refine appSAt hO9 ⟨#[13, 10]⟩ HL9.out rfl (.tmp 92) (.const (.string ⟨#[13, 10]⟩)) rfl rfl rfl ?_; intro v10 w10 hO10 hg10 hat10))
            have hA9 := hA8.other hg9 hO9.2 as8
            have as9 := as8.next hA8 hat9
            have hA10 := hA9.other hg10 hO10.2 as9
            have as10 := as9.next hA9 hat10
            have HO10 : Buf w w10 v10 ((ls.take (i + 1)).flatMap (Ck.oddOf k)) := by rw [HOS.out, ← HEQ.out]; exact hO10
            go_round
            case rel => exact ⟨i + 1, by omega, by go_num, HSS2.out, by rw [HFS.out]; exact hA10, HO10, as10⟩
            case measure => simp [intOf]; omega
    · have hki : ¬ (i : Int) < N := by omega
      have hiN : ls.take i = ls := List.take_of_length_le (by rw [← HN.out]; omega)
      have hall := HSM.out
      rw [hiN] at hall hA hO
      have hF9 := Ck.flat_len _ hall
      have hE9 := Ck.enc_len _ hall
      have hO9 := Ck.odd_len HK.out _ hall
      rw [← HN.out] at hF9 hE9 hO9
      have hel : (Ck.encode ls).length = (ls.flatMap Ck.chunkOf).length + 5 := by unfold Ck.encode; rw [List.length_append]; rfl
      have hol : (Ck.odd k ls).length = (ls.flatMap (Ck.oddOf k)).length + 15 := by unfold Ck.odd; rw [List.length_append]; rfl
      have hoe : ls.flatMap (Ck.oddOf k) ++ [48, 48, 48, 59, 97, 13, 10, 120, 58, 32, 121, 13, 10, 13, 10] = Ck.odd k ls := rfl
      have ht3 : t.length ≤ 300 := by have := HT3.out; have := HTl.out; omega
      have hd1 := Ck.decode_encode ls t (by omega)
      have hd2 := Ck.decode_odd k HK.out ls t hall (by omega)
      have hne : Ck.odd k ls ≠ [] := fun e => by have := congrArg List.length e; rw [hol] at this; simp at this
      have cEn := fun (W : World) (hb : Below w.heap.size w W) => HP.out.encode_new (.slice ao N c) ls W (by omega) (HV.out.later hb) (HP.out.later HE.out hb)
      have cRe := fun (W : World) (hb : Below w.heap.size w W) => rEncode_w (.slice ao N c) ls W (by omega) (HV.out.later hb)
      have cD1 := fun (u : Value) (W : World) (hu : BIn W u (Ck.encode ls ++ t)) (hb : Below w.heap.size w W) => HP.out.decode_new u (Ck.encode ls ++ t) W (by rw [List.length_append]; omega) hu (HP.out.later HE.out hb)
      have cD2 := fun (u : Value) (W : World) (hu : BIn W u (Ck.odd k ls ++ t)) (hb : Below w.heap.size w W) => HP.out.decode_new u (Ck.odd k ls ++ t) W (by rw [List.length_append]; omega) hu (HP.out.later HE.out hb)
      rw [hd1] at cD1
      rw [hd2] at cD2
      simp only [] at cD1 cD2
      have hl1 : ([] : List UInt8).length + (Ck.encode ls).length ≤ 1000000000 := by show 0 + _ ≤ _; omega
      have hl2 : ([] ++ Ck.encode ls).length + t.length ≤ 1000000000 := by show (Ck.encode ls).length + _ ≤ _; omega
      have hl3 : (ls.flatMap (Ck.oddOf k)).length + (⟨#[48, 48, 48, 59, 97, 13, 10, 120, 58, 32, 121, 13, 10, 13, 10]⟩ : ByteArray).size ≤ 100000000000 := by show _ + 15 ≤ _; omega
      have hl4 : ([] : List UInt8).length + (Ck.odd k ls).length ≤ 1000000000 := by show 0 + _ ≤ _; omega
      have hl5 : ([] ++ Ck.odd k ls).length + t.length ≤ 1000000000 := by show (Ck.odd k ls).length + _ ≤ _; omega
      clear hF9 hE9 hO9 hel hol hd1 hd2 hall hiN ht3 HSM
      generalize Ck.encode ls = en at *
      generalize hodd : Ck.odd k ls = od at *
      generalize ls.flatMap (Ck.oddOf k) = oo at *
      generalize ls.flatten = fl at *
      obtain ⟨EL, hEL⟩ : ∃ EL, EL = en.length := ⟨_, rfl⟩
      obtain ⟨OL, hOL⟩ : ∃ OL, OL = od.length := ⟨_, rfl⟩
      have HEL := Lib.hid hEL
      have HOL := Lib.hid hOL
      rw [← hEL] at cD1
      rw [← hOL] at cD2
      have HOE := Lib.hid hoe
      clear hodd hEL hOL hoe
      go_wp2_with fail
      refine (cEn wr hA.2).mono ?_
      rintro e2 w2 ⟨⟨ub, rfl, hb, hbn, hbnew⟩, hb2⟩
      have offb : Off u8 ub := hbnew.off hO.old
      have hA2 := hA.later hb2
      have hO2 := hO.later hb2
      have hbk := hb
      obtain ⟨ab, cb, rfl, _, _, hbg⟩ := hb
      clear hbg hA hO cEn hbnew
      have q1 := Buf.none_ w2 w2 (Below.refl _ w2)
      have q2 := hbk.later ((Below.refl _ w2).alloc (Nat.le_refl _) (.cells #[] 5))
      have bt : ∀ {W : World}, Below w2.heap.size w2 W → Below w.heap.size w W := fun h => hA2.2.trans (h.mono hA2.2.size)
      rw [← HEL.out] at hbn q2 hbk offb ⊢
      go_wp2_with (first
        | (at_builtin; refine appBs q1 q2 hbn hl1 rfl (.tmp 97) (.tmp 98) rfl rfl rfl ?_; intro v3 w3 hR3 _)
        | (at_builtin; refine appBs hR3 (HT.out.later (bt hR3.2)) HNIL.out hl2 rfl (.tmp 99) (.tmp 100) rfl rfl rfl ?_; intro v4 w4 hR4 _))
      refine (cD1 v4 w4 hR4.in_.1 (bt hR4.2)).mono ?_
      rintro e5 w5 ⟨⟨x5, rfl, hx5, hxn5, hxnew5⟩, hb5⟩
      have offx : Off u8 x5 := hxnew5.off (fun k hk => Nat.lt_of_lt_of_le (hO2.old k hk) hR4.2.size)
      have hb25 : Below w2.heap.size w2 w5 := hR4.2.trans (hb5.mono hR4.2.size)
      have hA5 := hA2.later hb25
      have hO5 := hO2.later hb25
      have hbk5 := hbk.later hb25
      clear q1 q2 hR3 hR4 hb5 hb25 cD1 bt hbk hO2 hA2 hb2 hxnew5
      go_upto_region 23 with (at_builtin; refine appSAt hO5 ⟨#[48, 48, 48, 59, 97, 13, 10, 120, 58, 32, 121, 13, 10, 13, 10]⟩ hl3 rfl (.tmp 106) (.const (.string ⟨#[48, 48, 48, 59, 97, 13, 10, 120, 58, 32, 121, 13, 10, 13, 10]⟩)) rfl rfl rfl ?_; intro v6 w6 hO6 hg6 hat6)
      have hA6 := hA5.other hg6 hO6.2 hAs
      have hb6 := hbk5.other hg6 offb
      have hx6 := hx5.other hg6 offx
      have hO6 : Buf w w6 v6 od := by rw [← HOE.out]; exact hO6
      obtain ⟨g6, c6, rfl, _⟩ := hO6.made hne
      rw [← HOL.out] at hO6 ⊢
      clear hA5 hbk5 hx5 hO5 hg6 hat6 offb offx hAs
      have q1 := Buf.none_ w6 w6 (Below.refl _ w6)
      have q2 := hO6.in_.1.later ((Below.refl _ w6).alloc (Nat.le_refl _) (.cells #[] 5))
      have bt : ∀ {W : World}, Below w6.heap.size w6 W → Below w.heap.size w W := fun h => hA6.2.trans (h.mono hA6.2.size)
      go_wp2_with (first
        | (at_builtin; refine appBs q1 q2 (nil_ok _ _ _) hl4 rfl (.tmp 109) (.tmp 110) rfl rfl rfl ?_; intro v7 w7 hR7 _)
        | (at_builtin; refine appBs hR7 (HT.out.later (bt hR7.2)) HNIL.out hl5 rfl (.tmp 111) (.tmp 112) rfl rfl rfl ?_; intro v8 w8 hR8 _))
      refine (cD2 v8 w8 hR8.in_.1 (bt hR8.2)).mono ?_
      rintro e9 w9 ⟨⟨x9, rfl, hx9, hxn9, _⟩, hb9⟩
      have hb69 : Below w6.heap.size w6 w9 := hR8.2.trans (hb9.mono hR8.2.size)
      have hA9 := hA6.later hb69
      have hbk9 := hb6.later hb69
      have hx69 := hx6.later hb69
      clear q1 q2 hR7 hR8 hb9 hb69 cD2 bt hA6 hb6 hx6 hO6
      go_upto_region 24 with fail
      have hbw := hA9.2
      have HBW := Lib.hid hbw
      have hall9 := hA9.in_
      have KEY := Lib.hid (fun (W : World) (h : Below w9.heap.size w9 W) => (⟨(hbk9.later h).all hbn, (hall9.1.later h).all hall9.2, (hx69.later h).all hxn5, (hx9.later h).all hxn9⟩ :
        (convert 22 9 (.slice ab EL cb)).run Tryd.prog W = .ok (.string (str en)) W ∧ (convert 22 9 u7).run Tryd.prog W = .ok (.string (str fl)) W ∧
        (convert 22 9 x5).run Tryd.prog W = .ok (.string (str fl)) W ∧ (convert 22 9 x9).run Tryd.prog W = .ok (.string (str fl)) W))
      have HP0 := Lib.hid ((Below.refl w9.heap.size w9).drew)
      have c9 := (cRe w9.drew (hbw.trans (HP0.out.mono hbw.size))).mono (R' := fun e W => ∃ u, e = .returned u ∧ Below w9.heap.size w9 W ∧ (convert 22 9 u).run Tryd.prog W = .ok (.string (str en)) W) (by
        rintro e W ⟨⟨u, rfl, hu, hun⟩, hb⟩
        exact ⟨u, rfl, HP0.out.trans (hb.mono HP0.out.size), hu.all hun⟩)
      clear hbk9 hA9 hx69 hx9 hall9 hbw cRe hl1 hl2 hl3 hl4 hl5 hne HEL HOL HOE hO6 hxn5 hxn9
      generalize str en = SE at *
      generalize str fl = SF at *
      obtain ⟨S, hS1, hSe⟩ : ∃ S : World → Prop, (∀ W, Below w9.heap.size w9 W → S W) ∧ (∀ W, S W → (convert 22 9 (.slice ab EL cb)).run Tryd.prog W = .ok (.string SE) W ∧ (convert 22 9 u7).run Tryd.prog W = .ok (.string SF) W ∧ (convert 22 9 x5).run Tryd.prog W = .ok (.string SF) W ∧ (convert 22 9 x9).run Tryd.prog W = .ok (.string SF) W) := ⟨fun W => Below w9.heap.size w9 W, fun W h => h, fun W h => KEY.out W h⟩
      refine wp_region_noPanic ?_
      refine wp_region_held (S := S) (by kernel_rfl) ?_
      refine held_of_takes (fuel := 38) (by kernel_rfl) (fun _ _ _ _ _ h => h) (hS1 _ HP0.out) [0, 1, 2] _ _ (by kernel_rfl) ?_
      refine Takes.val (.slice ab EL cb) rfl rfl (fun _ _ => by kernel_rfl) ?_
      refine Takes.val (.string SE) rfl rfl (fun W hW => exec_convert rfl (u := .slice ab EL cb) (by kernel_rfl) (hSe W hW).1) ?_
      refine Takes.val (.slice ao N c) rfl rfl (fun _ _ => by kernel_rfl) ?_
      refine wpAnyH_all (rs := [3]) (by kernel_rfl) (by simp) (fun i hi => ?_)
      obtain rfl := List.mem_singleton.1 hi
      refine wpOp_enter (f := 13) (args := #[.slice ao N c]) rfl rfl (by kernel_rfl) (c9.mono ?_)
      rintro e W1 ⟨u1, rfl, hb1, hcu⟩
      refine ⟨u1, rfl, hS1 _ hb1, ?_⟩
      refine wpAnyH_all (rs := [4]) (by kernel_rfl) (by simp) (fun i hi => ?_)
      obtain rfl := List.mem_singleton.1 hi
      refine wpOp_make (v := .string SE) (w' := W1) rfl rfl (exec_convert rfl (u := u1) (by kernel_rfl) hcu) ⟨hS1 _ hb1, ?_⟩
      refine held_of_takes (fuel := 0) (by kernel_rfl) (fun _ _ _ _ _ h => h) (hS1 _ hb1) [5, 6, 7, 8, 9, 10, 11, 12, 13, 14, 15, 16, 17, 18, 19, 20, 21, 22, 23, 24, 25, 26, 27, 28, 29, 30, 31, 32, 33, 34, 35, 36, 37, 38, 39, 40] _ _ (by kernel_rfl) ?_
      refine Takes.val (.bool true) rfl rfl (fun _ _ => exec_eqs (s := SE) rfl (by kernel_rfl) (by kernel_rfl)) ?_
      refine Takes.val (.bool true) rfl rfl (fun _ _ => by kernel_rfl) ?_
      refine Takes.val_if (.int .i64 0) rfl (by kernel_rfl) (fun _ _ => by kernel_rfl) ?_
      refine Takes.val_if (.bool true) rfl (by kernel_rfl) (fun _ _ => by kernel_rfl) ?_
      refine Takes.val (.bool true) rfl rfl (fun _ _ => by kernel_rfl) ?_
      refine Takes.val (.bool true) rfl rfl (fun _ _ => by kernel_rfl) ?_
      refine Takes.val_if (.int .i64 EL) rfl (by kernel_rfl) (fun _ _ => by kernel_rfl) ?_
      refine Takes.val_if (.slice ab EL cb) rfl (by kernel_rfl) (fun _ _ => by kernel_rfl) ?_
      refine Takes.val_if (.int .i64 EL) rfl (by kernel_rfl) (fun _ _ => by kernel_rfl) ?_
      refine Takes.val_if (.bool true) rfl (by kernel_rfl) (fun _ _ => exec_eqi (n := EL) rfl (by kernel_rfl) (by kernel_rfl)) ?_
      refine Takes.val (.bool true) rfl rfl (fun _ _ => by kernel_rfl) ?_
      refine Takes.val (.bool true) rfl rfl (fun _ _ => by kernel_rfl) ?_
      refine Takes.val_if (x5) rfl (by kernel_rfl) (fun _ _ => by kernel_rfl) ?_
      refine Takes.val_if (.string SF) rfl (by kernel_rfl) (fun W hW => exec_convert rfl (u := x5) (by kernel_rfl) (hSe W hW).2.2.1) ?_
      refine Takes.val_if (u7) rfl (by kernel_rfl) (fun _ _ => by kernel_rfl) ?_
      refine Takes.val_if (.string SF) rfl (by kernel_rfl) (fun W hW => exec_convert rfl (u := u7) (by kernel_rfl) (hSe W hW).2.1) ?_
      refine Takes.val_if (.bool true) rfl (by kernel_rfl) (fun _ _ => exec_eqs (s := SF) rfl (by kernel_rfl) (by kernel_rfl)) ?_
      refine Takes.val (.bool true) rfl rfl (fun _ _ => by kernel_rfl) ?_
      refine Takes.val (.bool true) rfl rfl (fun _ _ => by kernel_rfl) ?_
      refine Takes.val_if (.int .i64 0) rfl (by kernel_rfl) (fun _ _ => by kernel_rfl) ?_
      refine Takes.val_if (.bool true) rfl (by kernel_rfl) (fun _ _ => by kernel_rfl) ?_
      refine Takes.val (.bool true) rfl rfl (fun _ _ => by kernel_rfl) ?_
      refine Takes.val (.bool true) rfl rfl (fun _ _ => by kernel_rfl) ?_
      refine Takes.val_if (.int .i64 OL) rfl (by kernel_rfl) (fun _ _ => by kernel_rfl) ?_
      refine Takes.val_if (.slice (some ⟨g6, 0, none⟩) OL c6) rfl (by kernel_rfl) (fun _ _ => by kernel_rfl) ?_
      refine Takes.val_if (.int .i64 OL) rfl (by kernel_rfl) (fun _ _ => by kernel_rfl) ?_
      refine Takes.val_if (.bool true) rfl (by kernel_rfl) (fun _ _ => exec_eqi (n := OL) rfl (by kernel_rfl) (by kernel_rfl)) ?_
      refine Takes.val (.bool true) rfl rfl (fun _ _ => by kernel_rfl) ?_
      refine Takes.val (.bool true) rfl rfl (fun _ _ => by kernel_rfl) ?_
      refine Takes.val_if (x9) rfl (by kernel_rfl) (fun _ _ => by kernel_rfl) ?_
      refine Takes.val_if (.string SF) rfl (by kernel_rfl) (fun W hW => exec_convert rfl (u := x9) (by kernel_rfl) (hSe W hW).2.2.2) ?_
      refine Takes.val_if (u7) rfl (by kernel_rfl) (fun _ _ => by kernel_rfl) ?_
      refine Takes.val_if (.string SF) rfl (by kernel_rfl) (fun W hW => exec_convert rfl (u := u7) (by kernel_rfl) (hSe W hW).2.1) ?_
      refine Takes.val_if (.bool true) rfl (by kernel_rfl) (fun _ _ => exec_eqs (s := SF) rfl (by kernel_rfl) (by kernel_rfl)) ?_
      refine Takes.val (.bool true) rfl rfl (fun _ _ => by kernel_rfl) ?_
      refine Takes.val (.bool true) rfl rfl (fun _ _ => by kernel_rfl) ?_
      refine wpAnyH_done (P := Tryd.prog) (S := S) (by kernel_rfl) ?_ 0
      refine NoPanic.normal ?_
      have HP1 := Lib.hid hb1
      clear hb1 hcu
      go_simp
      go_wp2_with fail
      go_ret
      exact ⟨rfl, HBW.out.trans (HP1.out.mono HBW.out.size)⟩
end Go.Proofs.YtgnopcghobaoiaaDoor
