/- Package chunk, the program: a size line. -/
import Derived.Test.YtgnopcghobaoiaaDoorCkP1
namespace Ck
theorem cut_semi (l : L) : Go.Lib.cut l [59] = if St.upto 59 l < l.length then (l.take (St.upto 59 l), l.drop (St.upto 59 l + 1), true) else (l, [], false) := by
  have hle := St.upto_le 59 l
  have hs : Go.Lib.index l [59] = if St.upto 59 l = l.length then -1 else (St.upto 59 l : Int) := by
    rw [← St.index_upto, Go.Lib.index_one]
  unfold Go.Lib.cut
  rw [hs]
  by_cases hu : St.upto 59 l = l.length
  · rw [if_pos hu, if_neg (by decide), if_neg (by omega)]
  · rw [if_neg hu, if_pos (by omega)]
    simp
    omega
theorem trim_len (p : L) : (Go.Lib.trimSuffix p [13, 10]).length ≤ p.length := by
  unfold Go.Lib.trimSuffix
  split
  · rw [List.length_take]; omega
  · exact Nat.le_refl _
theorem digs_len (s : L) : (digs s).length ≤ s.length := by
  unfold digs
  split
  · exact Nat.le_trans (Oct.dropR_len _) (by rw [List.length_take]; exact Nat.min_le_right _ _)
  · exact Nat.le_refl _
end Ck
namespace Go.Proofs.YtgnopcghobaoiaaDoor
open Go.RowKit

theorem TrimR_s (s : ByteArray) (w : World) (hs : s.size ≤ 1000000) :
    Calls Tryd.prog 37 #[.string s, .string ⟨#[32, 9]⟩] w fun e w' => e = .returned (.string (str (Oct.dropR s.data.toList))) ∧ Below w.heap.size w w' := by
  have := Any.strings_TrimRight_laid Tryd.lays162 (by kernel_rfl) s ⟨#[32, 9]⟩ w (by omega) (by decide) (ascii_of_all (by decide))
  rw [← Oct.trimR_eq]
  exact this
/-- A line's end cut off. -/
theorem Cut_w (s : ByteArray) (w : World) (hs : s.size ≤ 1000000) :
    Calls Tryd.prog 35 #[.string s, .string ⟨#[13, 10]⟩] w fun e w' => e = .returned (.tuple #[.string (str (Lib.trimSuffix s.data.toList [13, 10])), .bool (Lib.hasSuffix s.data.toList [13, 10])]) ∧ w = w' :=
  (Tryd.strings_CutSuffix s ⟨#[13, 10]⟩ w (by omega)).mono fun _ _ ⟨he, hw⟩ => ⟨he, hw.symm⟩
/-- Cut at the semicolon. -/
theorem Semi_yes (s : List UInt8) (w : World) (hs : s.length ≤ 1000000) (hm : MaxOk w) (h : St.upto 59 s < s.length) :
    Calls Tryd.prog 36 #[.string (str s), .string ⟨#[59]⟩] w fun e w' => e = .returned (.tuple #[.string (str (s.take (St.upto 59 s))), .string (str (Ck.extn s)), .bool true]) ∧ Below w.heap.size w w' := by
  obtain ⟨m, hm⟩ := hm
  have := Tryd.strings_Cut (str s) ⟨#[59]⟩ m w (by rw [str_size]; omega) hm
  rw [str_list, show (⟨#[59]⟩ : ByteArray).data.toList = [59] from rfl, Ck.cut_semi, if_pos h] at this
  exact this.mono fun _ _ ⟨he, n, hw⟩ => ⟨he, by rw [hw]; exact bdrewN w n⟩
theorem Semi_no (s : List UInt8) (w : World) (hs : s.length ≤ 1000000) (hm : MaxOk w) (h : ¬ St.upto 59 s < s.length) :
    Calls Tryd.prog 36 #[.string (str s), .string ⟨#[59]⟩] w fun e w' => e = .returned (.tuple #[.string (str s), .string (str (Ck.extn s)), .bool false]) ∧ Below w.heap.size w w' := by
  obtain ⟨m, hm⟩ := hm
  have := Tryd.strings_Cut (str s) ⟨#[59]⟩ m w (by rw [str_size]; omega) hm
  have hle := St.upto_le 59 s
  have he0 : Ck.extn s = [] := by unfold Ck.extn; rw [List.drop_of_length_le (by omega)]
  rw [str_list, show (⟨#[59]⟩ : ByteArray).data.toList = [59] from rfl, Ck.cut_semi, if_neg h] at this
  rw [he0]
  exact this.mono fun _ _ ⟨he, n, hw⟩ => ⟨he, by rw [hw]; exact bdrewN w n⟩

set_option maxHeartbeats 3200000 in
set_option maxRecDepth 100000 in
theorem size_form_y (g t : Nat) (p : List UInt8) (w : World) (hp : p.length ≤ 1000) (ht : t ≤ 1048576) (hd : DAt w g 0 0 t 0 0) (hm : MaxOk w) (hs : Lib.hasSuffix p [13, 10] = false) (hsem : St.upto 59 (Lib.trimSuffix p [13, 10]) < (Lib.trimSuffix p [13, 10]).length) :
    Calls Tryd.prog 27 #[.pointer (some ⟨g, 0, none⟩), .string (str p)] w fun x w' => x = .returned (.int .i64 (Ck.tkSize t p).2) ∧ But g w w' ∧ Dst w' g (Ck.tkSize t p).1 0 := by
  have HA : Hid (∀ W : World, Below w.heap.size w W → DAt W g 0 0 t 0 0) := Lib.hid (fun W hb => hd.later hb)
  have HD : Hid (∀ W : World, Below w.heap.size w W → Dst W g (.size t) 0) := Lib.hid (fun W hb => ⟨ht, hd.later hb⟩)
  have cX := Cut_w (str p) w (by rw [str_size]; omega)
  rw [str_list] at cX
  have hlen : (Lib.trimSuffix p [13, 10]).length ≤ 1000 := Nat.le_trans (Ck.trim_len p) hp
  have cS := Semi_yes (Lib.trimSuffix p [13, 10]) w (by omega) hm hsem
  have hdl := Ck.digs_len (Lib.trimSuffix p [13, 10])
  have hel : (Ck.extn (Lib.trimSuffix p [13, 10])).length ≤ 1000 := by unfold Ck.extn; rw [List.length_drop]; omega
  have cR := fun (W : World) => TrimR_s (str ((Lib.trimSuffix p [13, 10]).take (St.upto 59 (Lib.trimSuffix p [13, 10])))) W (by rw [str_size, List.length_take]; omega)
  have hdg : Ck.digs (Lib.trimSuffix p [13, 10]) = Oct.dropR ((Lib.trimSuffix p [13, 10]).take (St.upto 59 (Lib.trimSuffix p [13, 10]))) := by unfold Ck.digs; rw [if_pos hsem]
  rw [str_list, ← hdg] at cR
  have hds : (str (Ck.digs (Lib.trimSuffix p [13, 10]))).size = (Ck.digs (Lib.trimSuffix p [13, 10])).length := str_size _
  have cT := fun (W : World) => Trim_s (str (Ck.extn (Lib.trimSuffix p [13, 10]))) W (by rw [str_size]; omega)
  rw [str_list] at cT
  have cV := fun (W : World) => Value_s (str (Oct.trim (Ck.extn (Lib.trimSuffix p [13, 10])))) W (by rw [str_size]; have := Oct.trim_len (Ck.extn (Lib.trimSuffix p [13, 10])); omega)
  rw [str_list] at cV
  have HT := Lib.hid (Ck.tkSize_bad (t := t) (.inl hs))
  rw [hs] at cX
  clear cT cV hds hel hdl
  clear hdg hlen hd hm hp hs hsem ht
  generalize str (Ck.digs (Lib.trimSuffix p [13, 10])) = D at *
  generalize str (Ck.extn (Lib.trimSuffix p [13, 10])) = E at *
  generalize str ((Lib.trimSuffix p [13, 10]).take (St.upto 59 (Lib.trimSuffix p [13, 10]))) = E0 at *
  generalize str (Lib.trimSuffix p [13, 10]) = Y at *
  generalize str p = X at *
  go_enter Tryd.func27, Tryd.ntmps27
  go_wp2_with fail
  refine cX.mono ?_
  rintro e W1 ⟨rfl, rfl⟩
  go_wp2_with fail
  refine cS.mono ?_
  rintro e W2 ⟨rfl, hb2⟩
  go_wp2_with fail
  refine (cR W2).mono ?_
  rintro e W3 ⟨rfl, hb3'⟩
  have hb3 := bt5 hb2 hb3'
  go_wp2_with fail
  go_ret
  exact ⟨by rw [HT.out]; rfl, But.of hb3, by rw [HT.out]; exact HD.out _ hb3⟩
set_option maxHeartbeats 3200000 in
set_option maxRecDepth 100000 in
theorem size_form_n (g t : Nat) (p : List UInt8) (w : World) (hp : p.length ≤ 1000) (ht : t ≤ 1048576) (hd : DAt w g 0 0 t 0 0) (hm : MaxOk w) (hs : Lib.hasSuffix p [13, 10] = false) (hsem : ¬ St.upto 59 (Lib.trimSuffix p [13, 10]) < (Lib.trimSuffix p [13, 10]).length) :
    Calls Tryd.prog 27 #[.pointer (some ⟨g, 0, none⟩), .string (str p)] w fun x w' => x = .returned (.int .i64 (Ck.tkSize t p).2) ∧ But g w w' ∧ Dst w' g (Ck.tkSize t p).1 0 := by
  have HA : Hid (∀ W : World, Below w.heap.size w W → DAt W g 0 0 t 0 0) := Lib.hid (fun W hb => hd.later hb)
  have HD : Hid (∀ W : World, Below w.heap.size w W → Dst W g (.size t) 0) := Lib.hid (fun W hb => ⟨ht, hd.later hb⟩)
  have cX := Cut_w (str p) w (by rw [str_size]; omega)
  rw [str_list] at cX
  have hlen : (Lib.trimSuffix p [13, 10]).length ≤ 1000 := Nat.le_trans (Ck.trim_len p) hp
  have cS := Semi_no (Lib.trimSuffix p [13, 10]) w (by omega) hm hsem
  have hdl := Ck.digs_len (Lib.trimSuffix p [13, 10])
  have hel : (Ck.extn (Lib.trimSuffix p [13, 10])).length ≤ 1000 := by unfold Ck.extn; rw [List.length_drop]; omega
  have hdg : Ck.digs (Lib.trimSuffix p [13, 10]) = Lib.trimSuffix p [13, 10] := by unfold Ck.digs; rw [if_neg hsem]
  have cS : Calls Tryd.prog 36 #[.string (str (Lib.trimSuffix p [13, 10])), .string ⟨#[59]⟩] w fun e w' => e = .returned (.tuple #[.string (str (Ck.digs (Lib.trimSuffix p [13, 10]))), .string (str (Ck.extn (Lib.trimSuffix p [13, 10]))), .bool false]) ∧ Below w.heap.size w w' := by rw [hdg]; exact cS
  have hds : (str (Ck.digs (Lib.trimSuffix p [13, 10]))).size = (Ck.digs (Lib.trimSuffix p [13, 10])).length := str_size _
  have cT := fun (W : World) => Trim_s (str (Ck.extn (Lib.trimSuffix p [13, 10]))) W (by rw [str_size]; omega)
  rw [str_list] at cT
  have cV := fun (W : World) => Value_s (str (Oct.trim (Ck.extn (Lib.trimSuffix p [13, 10])))) W (by rw [str_size]; have := Oct.trim_len (Ck.extn (Lib.trimSuffix p [13, 10])); omega)
  rw [str_list] at cV
  have HT := Lib.hid (Ck.tkSize_bad (t := t) (.inl hs))
  rw [hs] at cX
  clear cT cV hds hel hdl
  clear hdg hlen hd hm hp hs hsem ht
  generalize str (Ck.digs (Lib.trimSuffix p [13, 10])) = D at *
  generalize str (Ck.extn (Lib.trimSuffix p [13, 10])) = E at *
  generalize str (Lib.trimSuffix p [13, 10]) = Y at *
  generalize str p = X at *
  go_enter Tryd.func27, Tryd.ntmps27
  go_wp2_with fail
  refine cX.mono ?_
  rintro e W1 ⟨rfl, rfl⟩
  go_wp2_with fail
  refine cS.mono ?_
  rintro e W2 ⟨rfl, hb2⟩
  go_wp2_with fail
  go_ret
  exact ⟨by rw [HT.out]; rfl, But.of hb2, by rw [HT.out]; exact HD.out _ hb2⟩
set_option maxHeartbeats 3200000 in
set_option maxRecDepth 100000 in
theorem size_digits_y (g t : Nat) (p : List UInt8) (w : World) (hp : p.length ≤ 1000) (ht : t ≤ 1048576) (hd : DAt w g 0 0 t 0 0) (hm : MaxOk w) (hs : Lib.hasSuffix p [13, 10] = true) (h8 : 8 < (Ck.digs (Lib.trimSuffix p [13, 10])).length) (hsem : St.upto 59 (Lib.trimSuffix p [13, 10]) < (Lib.trimSuffix p [13, 10]).length) :
    Calls Tryd.prog 27 #[.pointer (some ⟨g, 0, none⟩), .string (str p)] w fun x w' => x = .returned (.int .i64 (Ck.tkSize t p).2) ∧ But g w w' ∧ Dst w' g (Ck.tkSize t p).1 0 := by
  have HA : Hid (∀ W : World, Below w.heap.size w W → DAt W g 0 0 t 0 0) := Lib.hid (fun W hb => hd.later hb)
  have HD : Hid (∀ W : World, Below w.heap.size w W → Dst W g (.size t) 0) := Lib.hid (fun W hb => ⟨ht, hd.later hb⟩)
  have cX := Cut_w (str p) w (by rw [str_size]; omega)
  rw [str_list] at cX
  have hlen : (Lib.trimSuffix p [13, 10]).length ≤ 1000 := Nat.le_trans (Ck.trim_len p) hp
  have cS := Semi_yes (Lib.trimSuffix p [13, 10]) w (by omega) hm hsem
  have hdl := Ck.digs_len (Lib.trimSuffix p [13, 10])
  have hel : (Ck.extn (Lib.trimSuffix p [13, 10])).length ≤ 1000 := by unfold Ck.extn; rw [List.length_drop]; omega
  have cR := fun (W : World) => TrimR_s (str ((Lib.trimSuffix p [13, 10]).take (St.upto 59 (Lib.trimSuffix p [13, 10])))) W (by rw [str_size, List.length_take]; omega)
  have hdg : Ck.digs (Lib.trimSuffix p [13, 10]) = Oct.dropR ((Lib.trimSuffix p [13, 10]).take (St.upto 59 (Lib.trimSuffix p [13, 10]))) := by unfold Ck.digs; rw [if_pos hsem]
  rw [str_list, ← hdg] at cR
  have hds : (str (Ck.digs (Lib.trimSuffix p [13, 10]))).size = (Ck.digs (Lib.trimSuffix p [13, 10])).length := str_size _
  have cT := fun (W : World) => Trim_s (str (Ck.extn (Lib.trimSuffix p [13, 10]))) W (by rw [str_size]; omega)
  rw [str_list] at cT
  have cV := fun (W : World) => Value_s (str (Oct.trim (Ck.extn (Lib.trimSuffix p [13, 10])))) W (by rw [str_size]; have := Oct.trim_len (Ck.extn (Lib.trimSuffix p [13, 10])); omega)
  rw [str_list] at cV
  have HT := Lib.hid (Ck.tkSize_bad (t := t) (p := p) (.inr (.inl h8)))
  rw [hs] at cX
  obtain ⟨K, hK⟩ : ∃ K, K = (Ck.digs (Lib.trimSuffix p [13, 10])).length := ⟨_, rfl⟩
  rw [← hK] at hds h8
  have hdz2 : (8 : Int) < ((str (Ck.digs (Lib.trimSuffix p [13, 10]))).size : Int) := by omega
  clear cT cV hel hdl hK hds h8
  clear hdg hlen hd hm hp hs hsem ht
  generalize str (Ck.digs (Lib.trimSuffix p [13, 10])) = D at *
  generalize str (Ck.extn (Lib.trimSuffix p [13, 10])) = E at *
  generalize str ((Lib.trimSuffix p [13, 10]).take (St.upto 59 (Lib.trimSuffix p [13, 10]))) = E0 at *
  generalize str (Lib.trimSuffix p [13, 10]) = Y at *
  generalize str p = X at *
  go_enter Tryd.func27, Tryd.ntmps27
  go_wp2_with fail
  refine cX.mono ?_
  rintro e W1 ⟨rfl, rfl⟩
  go_wp2_with fail
  refine cS.mono ?_
  rintro e W2 ⟨rfl, hb2⟩
  go_wp2_with fail
  refine (cR W2).mono ?_
  rintro e W3 ⟨rfl, hb3'⟩
  have hb3 := bt5 hb2 hb3'
  go_wp2_with fail
  go_ret
  exact ⟨by rw [HT.out]; rfl, But.of hb3, by rw [HT.out]; exact HD.out _ hb3⟩
set_option maxHeartbeats 3200000 in
set_option maxRecDepth 100000 in
theorem size_digits_n (g t : Nat) (p : List UInt8) (w : World) (hp : p.length ≤ 1000) (ht : t ≤ 1048576) (hd : DAt w g 0 0 t 0 0) (hm : MaxOk w) (hs : Lib.hasSuffix p [13, 10] = true) (h8 : 8 < (Ck.digs (Lib.trimSuffix p [13, 10])).length) (hsem : ¬ St.upto 59 (Lib.trimSuffix p [13, 10]) < (Lib.trimSuffix p [13, 10]).length) :
    Calls Tryd.prog 27 #[.pointer (some ⟨g, 0, none⟩), .string (str p)] w fun x w' => x = .returned (.int .i64 (Ck.tkSize t p).2) ∧ But g w w' ∧ Dst w' g (Ck.tkSize t p).1 0 := by
  have HA : Hid (∀ W : World, Below w.heap.size w W → DAt W g 0 0 t 0 0) := Lib.hid (fun W hb => hd.later hb)
  have HD : Hid (∀ W : World, Below w.heap.size w W → Dst W g (.size t) 0) := Lib.hid (fun W hb => ⟨ht, hd.later hb⟩)
  have cX := Cut_w (str p) w (by rw [str_size]; omega)
  rw [str_list] at cX
  have hlen : (Lib.trimSuffix p [13, 10]).length ≤ 1000 := Nat.le_trans (Ck.trim_len p) hp
  have cS := Semi_no (Lib.trimSuffix p [13, 10]) w (by omega) hm hsem
  have hdl := Ck.digs_len (Lib.trimSuffix p [13, 10])
  have hel : (Ck.extn (Lib.trimSuffix p [13, 10])).length ≤ 1000 := by unfold Ck.extn; rw [List.length_drop]; omega
  have hdg : Ck.digs (Lib.trimSuffix p [13, 10]) = Lib.trimSuffix p [13, 10] := by unfold Ck.digs; rw [if_neg hsem]
  have cS : Calls Tryd.prog 36 #[.string (str (Lib.trimSuffix p [13, 10])), .string ⟨#[59]⟩] w fun e w' => e = .returned (.tuple #[.string (str (Ck.digs (Lib.trimSuffix p [13, 10]))), .string (str (Ck.extn (Lib.trimSuffix p [13, 10]))), .bool false]) ∧ Below w.heap.size w w' := by rw [hdg]; exact cS
  have hds : (str (Ck.digs (Lib.trimSuffix p [13, 10]))).size = (Ck.digs (Lib.trimSuffix p [13, 10])).length := str_size _
  have cT := fun (W : World) => Trim_s (str (Ck.extn (Lib.trimSuffix p [13, 10]))) W (by rw [str_size]; omega)
  rw [str_list] at cT
  have cV := fun (W : World) => Value_s (str (Oct.trim (Ck.extn (Lib.trimSuffix p [13, 10])))) W (by rw [str_size]; have := Oct.trim_len (Ck.extn (Lib.trimSuffix p [13, 10])); omega)
  rw [str_list] at cV
  have HT := Lib.hid (Ck.tkSize_bad (t := t) (p := p) (.inr (.inl h8)))
  rw [hs] at cX
  obtain ⟨K, hK⟩ : ∃ K, K = (Ck.digs (Lib.trimSuffix p [13, 10])).length := ⟨_, rfl⟩
  rw [← hK] at hds h8
  have hdz2 : (8 : Int) < ((str (Ck.digs (Lib.trimSuffix p [13, 10]))).size : Int) := by omega
  clear cT cV hel hdl hK hds h8
  clear hdg hlen hd hm hp hs hsem ht
  generalize str (Ck.digs (Lib.trimSuffix p [13, 10])) = D at *
  generalize str (Ck.extn (Lib.trimSuffix p [13, 10])) = E at *
  generalize str (Lib.trimSuffix p [13, 10]) = Y at *
  generalize str p = X at *
  go_enter Tryd.func27, Tryd.ntmps27
  go_wp2_with fail
  refine cX.mono ?_
  rintro e W1 ⟨rfl, rfl⟩
  go_wp2_with fail
  refine cS.mono ?_
  rintro e W2 ⟨rfl, hb2⟩
  go_wp2_with fail
  go_ret
  exact ⟨by rw [HT.out]; rfl, But.of hb2, by rw [HT.out]; exact HD.out _ hb2⟩
set_option maxHeartbeats 3200000 in
set_option maxRecDepth 100000 in
theorem size_value_y (g t : Nat) (p : List UInt8) (w : World) (hp : p.length ≤ 1000) (ht : t ≤ 1048576) (hd : DAt w g 0 0 t 0 0) (hm : MaxOk w) (hs : Lib.hasSuffix p [13, 10] = true) (h8 : (Ck.digs (Lib.trimSuffix p [13, 10])).length ≤ 8) (hv : Oct.value (Oct.trim (Ck.extn (Lib.trimSuffix p [13, 10]))) = false) (hsem : St.upto 59 (Lib.trimSuffix p [13, 10]) < (Lib.trimSuffix p [13, 10]).length) :
    Calls Tryd.prog 27 #[.pointer (some ⟨g, 0, none⟩), .string (str p)] w fun x w' => x = .returned (.int .i64 (Ck.tkSize t p).2) ∧ But g w w' ∧ Dst w' g (Ck.tkSize t p).1 0 := by
  have HA : Hid (∀ W : World, Below w.heap.size w W → DAt W g 0 0 t 0 0) := Lib.hid (fun W hb => hd.later hb)
  have HD : Hid (∀ W : World, Below w.heap.size w W → Dst W g (.size t) 0) := Lib.hid (fun W hb => ⟨ht, hd.later hb⟩)
  have cX := Cut_w (str p) w (by rw [str_size]; omega)
  rw [str_list] at cX
  have hlen : (Lib.trimSuffix p [13, 10]).length ≤ 1000 := Nat.le_trans (Ck.trim_len p) hp
  have cS := Semi_yes (Lib.trimSuffix p [13, 10]) w (by omega) hm hsem
  have hdl := Ck.digs_len (Lib.trimSuffix p [13, 10])
  have hel : (Ck.extn (Lib.trimSuffix p [13, 10])).length ≤ 1000 := by unfold Ck.extn; rw [List.length_drop]; omega
  have cR := fun (W : World) => TrimR_s (str ((Lib.trimSuffix p [13, 10]).take (St.upto 59 (Lib.trimSuffix p [13, 10])))) W (by rw [str_size, List.length_take]; omega)
  have hdg : Ck.digs (Lib.trimSuffix p [13, 10]) = Oct.dropR ((Lib.trimSuffix p [13, 10]).take (St.upto 59 (Lib.trimSuffix p [13, 10]))) := by unfold Ck.digs; rw [if_pos hsem]
  rw [str_list, ← hdg] at cR
  have hds : (str (Ck.digs (Lib.trimSuffix p [13, 10]))).size = (Ck.digs (Lib.trimSuffix p [13, 10])).length := str_size _
  have cT := fun (W : World) => Trim_s (str (Ck.extn (Lib.trimSuffix p [13, 10]))) W (by rw [str_size]; omega)
  rw [str_list] at cT
  have cV := fun (W : World) => Value_s (str (Oct.trim (Ck.extn (Lib.trimSuffix p [13, 10])))) W (by rw [str_size]; have := Oct.trim_len (Ck.extn (Lib.trimSuffix p [13, 10])); omega)
  rw [str_list] at cV
  have HT := Lib.hid (Ck.tkSize_bad (t := t) (p := p) (.inr (.inr hv)))
  rw [hs] at cX
  rw [hv] at cV
  have hdz : ¬ (8 : Int) < ((str (Ck.digs (Lib.trimSuffix p [13, 10]))).size : Int) := by omega
  clear hel hdl hds h8 hv
  clear hdg hlen hd hm hp hs hsem ht
  generalize str (Ck.digs (Lib.trimSuffix p [13, 10])) = D at *
  generalize str (Oct.trim (Ck.extn (Lib.trimSuffix p [13, 10]))) = E2 at *
  generalize str (Ck.extn (Lib.trimSuffix p [13, 10])) = E at *
  generalize str ((Lib.trimSuffix p [13, 10]).take (St.upto 59 (Lib.trimSuffix p [13, 10]))) = E0 at *
  generalize str (Lib.trimSuffix p [13, 10]) = Y at *
  generalize str p = X at *
  go_enter Tryd.func27, Tryd.ntmps27
  go_wp2_with fail
  refine cX.mono ?_
  rintro e W1 ⟨rfl, rfl⟩
  go_wp2_with fail
  refine cS.mono ?_
  rintro e W2 ⟨rfl, hb2⟩
  go_wp2_with fail
  refine (cR W2).mono ?_
  rintro e W3 ⟨rfl, hb3'⟩
  have hb3 := bt5 hb2 hb3'
  go_wp2_with fail
  refine (cT W3).mono ?_
  rintro e W4 ⟨rfl, hb4'⟩
  have hb4 := bt5 hb3 hb4'
  go_wp2_with fail
  refine (cV W4).mono ?_
  rintro e W5 ⟨rfl, hb5'⟩
  have hb5 := bt5 hb4 hb5'
  go_wp2_with fail
  go_ret
  exact ⟨by rw [HT.out]; rfl, But.of hb5, by rw [HT.out]; exact HD.out _ hb5⟩
set_option maxHeartbeats 3200000 in
set_option maxRecDepth 100000 in
theorem size_value_n (g t : Nat) (p : List UInt8) (w : World) (hp : p.length ≤ 1000) (ht : t ≤ 1048576) (hd : DAt w g 0 0 t 0 0) (hm : MaxOk w) (hs : Lib.hasSuffix p [13, 10] = true) (h8 : (Ck.digs (Lib.trimSuffix p [13, 10])).length ≤ 8) (hv : Oct.value (Oct.trim (Ck.extn (Lib.trimSuffix p [13, 10]))) = false) (hsem : ¬ St.upto 59 (Lib.trimSuffix p [13, 10]) < (Lib.trimSuffix p [13, 10]).length) :
    Calls Tryd.prog 27 #[.pointer (some ⟨g, 0, none⟩), .string (str p)] w fun x w' => x = .returned (.int .i64 (Ck.tkSize t p).2) ∧ But g w w' ∧ Dst w' g (Ck.tkSize t p).1 0 := by
  have HA : Hid (∀ W : World, Below w.heap.size w W → DAt W g 0 0 t 0 0) := Lib.hid (fun W hb => hd.later hb)
  have HD : Hid (∀ W : World, Below w.heap.size w W → Dst W g (.size t) 0) := Lib.hid (fun W hb => ⟨ht, hd.later hb⟩)
  have cX := Cut_w (str p) w (by rw [str_size]; omega)
  rw [str_list] at cX
  have hlen : (Lib.trimSuffix p [13, 10]).length ≤ 1000 := Nat.le_trans (Ck.trim_len p) hp
  have cS := Semi_no (Lib.trimSuffix p [13, 10]) w (by omega) hm hsem
  have hdl := Ck.digs_len (Lib.trimSuffix p [13, 10])
  have hel : (Ck.extn (Lib.trimSuffix p [13, 10])).length ≤ 1000 := by unfold Ck.extn; rw [List.length_drop]; omega
  have hdg : Ck.digs (Lib.trimSuffix p [13, 10]) = Lib.trimSuffix p [13, 10] := by unfold Ck.digs; rw [if_neg hsem]
  have cS : Calls Tryd.prog 36 #[.string (str (Lib.trimSuffix p [13, 10])), .string ⟨#[59]⟩] w fun e w' => e = .returned (.tuple #[.string (str (Ck.digs (Lib.trimSuffix p [13, 10]))), .string (str (Ck.extn (Lib.trimSuffix p [13, 10]))), .bool false]) ∧ Below w.heap.size w w' := by rw [hdg]; exact cS
  have hds : (str (Ck.digs (Lib.trimSuffix p [13, 10]))).size = (Ck.digs (Lib.trimSuffix p [13, 10])).length := str_size _
  have cT := fun (W : World) => Trim_s (str (Ck.extn (Lib.trimSuffix p [13, 10]))) W (by rw [str_size]; omega)
  rw [str_list] at cT
  have cV := fun (W : World) => Value_s (str (Oct.trim (Ck.extn (Lib.trimSuffix p [13, 10])))) W (by rw [str_size]; have := Oct.trim_len (Ck.extn (Lib.trimSuffix p [13, 10])); omega)
  rw [str_list] at cV
  have HT := Lib.hid (Ck.tkSize_bad (t := t) (p := p) (.inr (.inr hv)))
  rw [hs] at cX
  rw [hv] at cV
  have hdz : ¬ (8 : Int) < ((str (Ck.digs (Lib.trimSuffix p [13, 10]))).size : Int) := by omega
  clear hel hdl hds h8 hv
  clear hdg hlen hd hm hp hs hsem ht
  generalize str (Ck.digs (Lib.trimSuffix p [13, 10])) = D at *
  generalize str (Oct.trim (Ck.extn (Lib.trimSuffix p [13, 10]))) = E2 at *
  generalize str (Ck.extn (Lib.trimSuffix p [13, 10])) = E at *
  generalize str (Lib.trimSuffix p [13, 10]) = Y at *
  generalize str p = X at *
  go_enter Tryd.func27, Tryd.ntmps27
  go_wp2_with fail
  refine cX.mono ?_
  rintro e W1 ⟨rfl, rfl⟩
  go_wp2_with fail
  refine cS.mono ?_
  rintro e W2 ⟨rfl, hb2⟩
  go_wp2_with fail
  refine (cT W2).mono ?_
  rintro e W4 ⟨rfl, hb4'⟩
  have hb4 := bt5 hb2 hb4'
  go_wp2_with fail
  refine (cV W4).mono ?_
  rintro e W5 ⟨rfl, hb5'⟩
  have hb5 := bt5 hb4 hb5'
  go_wp2_with fail
  go_ret
  exact ⟨by rw [HT.out]; rfl, But.of hb5, by rw [HT.out]; exact HD.out _ hb5⟩
set_option maxHeartbeats 3200000 in
set_option maxRecDepth 100000 in
theorem size_not_y (g t : Nat) (p : List UInt8) (w : World) (hp : p.length ≤ 1000) (ht : t ≤ 1048576) (hd : DAt w g 0 0 t 0 0) (hm : MaxOk w) (hs : Lib.hasSuffix p [13, 10] = true) (h8 : (Ck.digs (Lib.trimSuffix p [13, 10])).length ≤ 8) (hv : Oct.value (Oct.trim (Ck.extn (Lib.trimSuffix p [13, 10]))) = true) (er : Int) (he : er ≠ 0) (hn : Oct.number 16 ((1048576 - t : Nat) : Int) (Ck.digs (Lib.trimSuffix p [13, 10])) = (0, er)) (hT : Ck.tkSize t p = (.size t, er)) (hsem : St.upto 59 (Lib.trimSuffix p [13, 10]) < (Lib.trimSuffix p [13, 10]).length) :
    Calls Tryd.prog 27 #[.pointer (some ⟨g, 0, none⟩), .string (str p)] w fun x w' => x = .returned (.int .i64 (Ck.tkSize t p).2) ∧ But g w w' ∧ Dst w' g (Ck.tkSize t p).1 0 := by
  have HA : Hid (∀ W : World, Below w.heap.size w W → DAt W g 0 0 t 0 0) := Lib.hid (fun W hb => hd.later hb)
  have HD : Hid (∀ W : World, Below w.heap.size w W → Dst W g (.size t) 0) := Lib.hid (fun W hb => ⟨ht, hd.later hb⟩)
  have cX := Cut_w (str p) w (by rw [str_size]; omega)
  rw [str_list] at cX
  have hlen : (Lib.trimSuffix p [13, 10]).length ≤ 1000 := Nat.le_trans (Ck.trim_len p) hp
  have cS := Semi_yes (Lib.trimSuffix p [13, 10]) w (by omega) hm hsem
  have hdl := Ck.digs_len (Lib.trimSuffix p [13, 10])
  have hel : (Ck.extn (Lib.trimSuffix p [13, 10])).length ≤ 1000 := by unfold Ck.extn; rw [List.length_drop]; omega
  have cR := fun (W : World) => TrimR_s (str ((Lib.trimSuffix p [13, 10]).take (St.upto 59 (Lib.trimSuffix p [13, 10])))) W (by rw [str_size, List.length_take]; omega)
  have hdg : Ck.digs (Lib.trimSuffix p [13, 10]) = Oct.dropR ((Lib.trimSuffix p [13, 10]).take (St.upto 59 (Lib.trimSuffix p [13, 10]))) := by unfold Ck.digs; rw [if_pos hsem]
  rw [str_list, ← hdg] at cR
  have hds : (str (Ck.digs (Lib.trimSuffix p [13, 10]))).size = (Ck.digs (Lib.trimSuffix p [13, 10])).length := str_size _
  have cT := fun (W : World) => Trim_s (str (Ck.extn (Lib.trimSuffix p [13, 10]))) W (by rw [str_size]; omega)
  rw [str_list] at cT
  have cV := fun (W : World) => Value_s (str (Oct.trim (Ck.extn (Lib.trimSuffix p [13, 10])))) W (by rw [str_size]; have := Oct.trim_len (Ck.extn (Lib.trimSuffix p [13, 10])); omega)
  rw [str_list] at cV
  rw [hs] at cX
  rw [hv] at cV
  have hdz : ¬ (8 : Int) < ((str (Ck.digs (Lib.trimSuffix p [13, 10]))).size : Int) := by omega
  obtain ⟨M, hM⟩ : ∃ M : Int, M = ((1048576 - t : Nat) : Int) := ⟨_, rfl⟩
  have hMt : (1048576 : Int) - t = M := by omega
  have hM0 : (0 : Int) ≤ M := by omega
  have hM1 : M ≤ (1048576 : Int) := by omega
  have hti : (t : Int) ≤ 1048576 := by omega
  have HT := Lib.hid hT
  have cN := fun (W : World) => Hex_is (str (Ck.digs (Lib.trimSuffix p [13, 10]))) M 0 er W (by omega) (by omega) (by omega) (by rw [str_list, hM]; exact hn)
  have heb : (er != 0) = true := by simpa using he
  have heb2 : ¬ er = 0 := he
  clear hel hdl hds h8 hv hn hM hT he
  clear hdg hlen hd hm hp hs hsem ht
  generalize str (Ck.digs (Lib.trimSuffix p [13, 10])) = D at *
  generalize str (Oct.trim (Ck.extn (Lib.trimSuffix p [13, 10]))) = E2 at *
  generalize str (Ck.extn (Lib.trimSuffix p [13, 10])) = E at *
  generalize str ((Lib.trimSuffix p [13, 10]).take (St.upto 59 (Lib.trimSuffix p [13, 10]))) = E0 at *
  generalize str (Lib.trimSuffix p [13, 10]) = Y at *
  generalize str p = X at *
  go_enter Tryd.func27, Tryd.ntmps27
  go_wp2_with fail
  refine cX.mono ?_
  rintro e W1 ⟨rfl, rfl⟩
  go_wp2_with fail
  refine cS.mono ?_
  rintro e W2 ⟨rfl, hb2⟩
  go_wp2_with fail
  refine (cR W2).mono ?_
  rintro e W3 ⟨rfl, hb3'⟩
  have hb3 := bt5 hb2 hb3'
  go_wp2_with fail
  refine (cT W3).mono ?_
  rintro e W4 ⟨rfl, hb4'⟩
  have hb4 := bt5 hb3 hb4'
  go_wp2_with fail
  refine (cV W4).mono ?_
  rintro e W5 ⟨rfl, hb5'⟩
  have hb5 := bt5 hb4 hb5'
  have hd5 := HA.out W5 hb5
  obtain ⟨c0, c1, c2, c3, c4⟩ := hd5.cells
  go_wp2_with fail
  refine (cN W5).mono ?_
  rintro e W6 ⟨rfl, hb6'⟩
  have hb6 := bt5 hb5 hb6'
  clear c0 c1 c2 c3 c4 hd5
  go_wp2_with fail
  go_ret
  exact ⟨by rw [HT.out]; rfl, But.of hb6, by rw [HT.out]; exact HD.out _ hb6⟩
set_option maxHeartbeats 3200000 in
set_option maxRecDepth 100000 in
theorem size_not_n (g t : Nat) (p : List UInt8) (w : World) (hp : p.length ≤ 1000) (ht : t ≤ 1048576) (hd : DAt w g 0 0 t 0 0) (hm : MaxOk w) (hs : Lib.hasSuffix p [13, 10] = true) (h8 : (Ck.digs (Lib.trimSuffix p [13, 10])).length ≤ 8) (hv : Oct.value (Oct.trim (Ck.extn (Lib.trimSuffix p [13, 10]))) = true) (er : Int) (he : er ≠ 0) (hn : Oct.number 16 ((1048576 - t : Nat) : Int) (Ck.digs (Lib.trimSuffix p [13, 10])) = (0, er)) (hT : Ck.tkSize t p = (.size t, er)) (hsem : ¬ St.upto 59 (Lib.trimSuffix p [13, 10]) < (Lib.trimSuffix p [13, 10]).length) :
    Calls Tryd.prog 27 #[.pointer (some ⟨g, 0, none⟩), .string (str p)] w fun x w' => x = .returned (.int .i64 (Ck.tkSize t p).2) ∧ But g w w' ∧ Dst w' g (Ck.tkSize t p).1 0 := by
  have HA : Hid (∀ W : World, Below w.heap.size w W → DAt W g 0 0 t 0 0) := Lib.hid (fun W hb => hd.later hb)
  have HD : Hid (∀ W : World, Below w.heap.size w W → Dst W g (.size t) 0) := Lib.hid (fun W hb => ⟨ht, hd.later hb⟩)
  have cX := Cut_w (str p) w (by rw [str_size]; omega)
  rw [str_list] at cX
  have hlen : (Lib.trimSuffix p [13, 10]).length ≤ 1000 := Nat.le_trans (Ck.trim_len p) hp
  have cS := Semi_no (Lib.trimSuffix p [13, 10]) w (by omega) hm hsem
  have hdl := Ck.digs_len (Lib.trimSuffix p [13, 10])
  have hel : (Ck.extn (Lib.trimSuffix p [13, 10])).length ≤ 1000 := by unfold Ck.extn; rw [List.length_drop]; omega
  have hdg : Ck.digs (Lib.trimSuffix p [13, 10]) = Lib.trimSuffix p [13, 10] := by unfold Ck.digs; rw [if_neg hsem]
  have cS : Calls Tryd.prog 36 #[.string (str (Lib.trimSuffix p [13, 10])), .string ⟨#[59]⟩] w fun e w' => e = .returned (.tuple #[.string (str (Ck.digs (Lib.trimSuffix p [13, 10]))), .string (str (Ck.extn (Lib.trimSuffix p [13, 10]))), .bool false]) ∧ Below w.heap.size w w' := by rw [hdg]; exact cS
  have hds : (str (Ck.digs (Lib.trimSuffix p [13, 10]))).size = (Ck.digs (Lib.trimSuffix p [13, 10])).length := str_size _
  have cT := fun (W : World) => Trim_s (str (Ck.extn (Lib.trimSuffix p [13, 10]))) W (by rw [str_size]; omega)
  rw [str_list] at cT
  have cV := fun (W : World) => Value_s (str (Oct.trim (Ck.extn (Lib.trimSuffix p [13, 10])))) W (by rw [str_size]; have := Oct.trim_len (Ck.extn (Lib.trimSuffix p [13, 10])); omega)
  rw [str_list] at cV
  rw [hs] at cX
  rw [hv] at cV
  have hdz : ¬ (8 : Int) < ((str (Ck.digs (Lib.trimSuffix p [13, 10]))).size : Int) := by omega
  obtain ⟨M, hM⟩ : ∃ M : Int, M = ((1048576 - t : Nat) : Int) := ⟨_, rfl⟩
  have hMt : (1048576 : Int) - t = M := by omega
  have hM0 : (0 : Int) ≤ M := by omega
  have hM1 : M ≤ (1048576 : Int) := by omega
  have hti : (t : Int) ≤ 1048576 := by omega
  have HT := Lib.hid hT
  have cN := fun (W : World) => Hex_is (str (Ck.digs (Lib.trimSuffix p [13, 10]))) M 0 er W (by omega) (by omega) (by omega) (by rw [str_list, hM]; exact hn)
  have heb : (er != 0) = true := by simpa using he
  have heb2 : ¬ er = 0 := he
  clear hel hdl hds h8 hv hn hM hT he
  clear hdg hlen hd hm hp hs hsem ht
  generalize str (Ck.digs (Lib.trimSuffix p [13, 10])) = D at *
  generalize str (Oct.trim (Ck.extn (Lib.trimSuffix p [13, 10]))) = E2 at *
  generalize str (Ck.extn (Lib.trimSuffix p [13, 10])) = E at *
  generalize str (Lib.trimSuffix p [13, 10]) = Y at *
  generalize str p = X at *
  go_enter Tryd.func27, Tryd.ntmps27
  go_wp2_with fail
  refine cX.mono ?_
  rintro e W1 ⟨rfl, rfl⟩
  go_wp2_with fail
  refine cS.mono ?_
  rintro e W2 ⟨rfl, hb2⟩
  go_wp2_with fail
  refine (cT W2).mono ?_
  rintro e W4 ⟨rfl, hb4'⟩
  have hb4 := bt5 hb2 hb4'
  go_wp2_with fail
  refine (cV W4).mono ?_
  rintro e W5 ⟨rfl, hb5'⟩
  have hb5 := bt5 hb4 hb5'
  have hd5 := HA.out W5 hb5
  obtain ⟨c0, c1, c2, c3, c4⟩ := hd5.cells
  go_wp2_with fail
  refine (cN W5).mono ?_
  rintro e W6 ⟨rfl, hb6'⟩
  have hb6 := bt5 hb5 hb6'
  clear c0 c1 c2 c3 c4 hd5
  go_wp2_with fail
  go_ret
  exact ⟨by rw [HT.out]; rfl, But.of hb6, by rw [HT.out]; exact HD.out _ hb6⟩
set_option maxHeartbeats 3200000 in
set_option maxRecDepth 100000 in
theorem size_last_y (g t : Nat) (p : List UInt8) (w : World) (hp : p.length ≤ 1000) (ht : t ≤ 1048576) (hd : DAt w g 0 0 t 0 0) (hm : MaxOk w) (hs : Lib.hasSuffix p [13, 10] = true) (h8 : (Ck.digs (Lib.trimSuffix p [13, 10])).length ≤ 8) (hv : Oct.value (Oct.trim (Ck.extn (Lib.trimSuffix p [13, 10]))) = true) (hn : Oct.number 16 ((1048576 - t : Nat) : Int) (Ck.digs (Lib.trimSuffix p [13, 10])) = (0, 0)) (hT : Ck.tkSize t p = (.trail 0, 0)) (hsem : St.upto 59 (Lib.trimSuffix p [13, 10]) < (Lib.trimSuffix p [13, 10]).length) :
    Calls Tryd.prog 27 #[.pointer (some ⟨g, 0, none⟩), .string (str p)] w fun x w' => x = .returned (.int .i64 (Ck.tkSize t p).2) ∧ But g w w' ∧ Dst w' g (Ck.tkSize t p).1 0 := by
  have HA : Hid (∀ W : World, Below w.heap.size w W → DAt W g 0 0 t 0 0) := Lib.hid (fun W hb => hd.later hb)
  have HD : Hid (∀ W : World, Below w.heap.size w W → Dst W g (.size t) 0) := Lib.hid (fun W hb => ⟨ht, hd.later hb⟩)
  have cX := Cut_w (str p) w (by rw [str_size]; omega)
  rw [str_list] at cX
  have hlen : (Lib.trimSuffix p [13, 10]).length ≤ 1000 := Nat.le_trans (Ck.trim_len p) hp
  have cS := Semi_yes (Lib.trimSuffix p [13, 10]) w (by omega) hm hsem
  have hdl := Ck.digs_len (Lib.trimSuffix p [13, 10])
  have hel : (Ck.extn (Lib.trimSuffix p [13, 10])).length ≤ 1000 := by unfold Ck.extn; rw [List.length_drop]; omega
  have cR := fun (W : World) => TrimR_s (str ((Lib.trimSuffix p [13, 10]).take (St.upto 59 (Lib.trimSuffix p [13, 10])))) W (by rw [str_size, List.length_take]; omega)
  have hdg : Ck.digs (Lib.trimSuffix p [13, 10]) = Oct.dropR ((Lib.trimSuffix p [13, 10]).take (St.upto 59 (Lib.trimSuffix p [13, 10]))) := by unfold Ck.digs; rw [if_pos hsem]
  rw [str_list, ← hdg] at cR
  have hds : (str (Ck.digs (Lib.trimSuffix p [13, 10]))).size = (Ck.digs (Lib.trimSuffix p [13, 10])).length := str_size _
  have cT := fun (W : World) => Trim_s (str (Ck.extn (Lib.trimSuffix p [13, 10]))) W (by rw [str_size]; omega)
  rw [str_list] at cT
  have cV := fun (W : World) => Value_s (str (Oct.trim (Ck.extn (Lib.trimSuffix p [13, 10])))) W (by rw [str_size]; have := Oct.trim_len (Ck.extn (Lib.trimSuffix p [13, 10])); omega)
  rw [str_list] at cV
  rw [hs] at cX
  rw [hv] at cV
  have hdz : ¬ (8 : Int) < ((str (Ck.digs (Lib.trimSuffix p [13, 10]))).size : Int) := by omega
  obtain ⟨M, hM⟩ : ∃ M : Int, M = ((1048576 - t : Nat) : Int) := ⟨_, rfl⟩
  have hMt : (1048576 : Int) - t = M := by omega
  have hM0 : (0 : Int) ≤ M := by omega
  have hM1 : M ≤ (1048576 : Int) := by omega
  have hti : (t : Int) ≤ 1048576 := by omega
  have HT := Lib.hid hT
  have cN := fun (W : World) => Hex_is (str (Ck.digs (Lib.trimSuffix p [13, 10]))) M 0 0 W (by omega) (by omega) (by omega) (by rw [str_list, hM]; exact hn)
  clear hel hdl hds h8 hv hn hM hT
  clear hdg hlen hd hm hp hs hsem ht
  generalize str (Ck.digs (Lib.trimSuffix p [13, 10])) = D at *
  generalize str (Oct.trim (Ck.extn (Lib.trimSuffix p [13, 10]))) = E2 at *
  generalize str (Ck.extn (Lib.trimSuffix p [13, 10])) = E at *
  generalize str ((Lib.trimSuffix p [13, 10]).take (St.upto 59 (Lib.trimSuffix p [13, 10]))) = E0 at *
  generalize str (Lib.trimSuffix p [13, 10]) = Y at *
  generalize str p = X at *
  go_enter Tryd.func27, Tryd.ntmps27
  go_wp2_with fail
  refine cX.mono ?_
  rintro e W1 ⟨rfl, rfl⟩
  go_wp2_with fail
  refine cS.mono ?_
  rintro e W2 ⟨rfl, hb2⟩
  go_wp2_with fail
  refine (cR W2).mono ?_
  rintro e W3 ⟨rfl, hb3'⟩
  have hb3 := bt5 hb2 hb3'
  go_wp2_with fail
  refine (cT W3).mono ?_
  rintro e W4 ⟨rfl, hb4'⟩
  have hb4 := bt5 hb3 hb4'
  go_wp2_with fail
  refine (cV W4).mono ?_
  rintro e W5 ⟨rfl, hb5'⟩
  have hb5 := bt5 hb4 hb5'
  have hd5 := HA.out W5 hb5
  obtain ⟨c0, c1, c2, c3, c4⟩ := hd5.cells
  go_wp2_with fail
  refine (cN W5).mono ?_
  rintro e W6 ⟨rfl, hb6'⟩
  have hb6 := bt5 hb5 hb6'
  clear c0 c1 c2 c3 c4 hd5
  have hd6 := HA.out W6 hb6
  have hB6 : But g w W6 := But.of hb6
  obtain ⟨c0, c1, c2, c3, c4⟩ := hd6.cells
  have q1 := hd6.free 1
  go_upto_region 11 with fail
  have hd7 : DAt (W6.setCell ⟨g, 1, none⟩ (.int .i64 0)) g 0 0 t 0 0 := hd6.put 1 _ rfl
  have hB7 := hB6.put 1 (.int .i64 0)
  generalize W6.setCell ⟨g, 1, none⟩ (.int .i64 0) = W7 at *
  obtain ⟨c0, c1, c2, c3, c4⟩ := hd7.cells
  have q2 := hd7.free 2
  go_upto_region 12 with fail
  have hd8 : DAt (W7.setCell ⟨g, 2, none⟩ (.int .i64 t)) g 0 0 t 0 0 := hd7.put 2 _ rfl
  have hB8 := hB7.put 2 (.int .i64 t)
  generalize W7.setCell ⟨g, 2, none⟩ (.int .i64 t) = W8 at *
  obtain ⟨c0, c1, c2, c3, c4⟩ := hd8.cells
  have q3 := hd8.free 0
  go_upto_region 13 with fail
  have hd9 : DAt (W8.setCell ⟨g, 0, none⟩ (.int .i64 1)) g 1 0 t 0 0 := hd8.put 0 _ rfl
  have hB9 := hB8.put 0 (.int .i64 1)
  generalize W8.setCell ⟨g, 0, none⟩ (.int .i64 1) = W9 at *
  obtain ⟨c0, c1, c2, c3, c4⟩ := hd9.cells
  have q4 := hd9.free 0
  clear hd7 hB7 hd8 hB8 hd6 hB6
  go_wp2_with fail
  go_ret
  rw [HT.out]
  exact ⟨rfl, hB9.put 0 _, Nat.zero_le _, (t : Int), hd9.put (a' := 3) (n' := 0) (t' := t) (k' := 0) (e' := 0) 0 (.int .i64 3) rfl⟩
set_option maxHeartbeats 3200000 in
set_option maxRecDepth 100000 in
theorem size_last_n (g t : Nat) (p : List UInt8) (w : World) (hp : p.length ≤ 1000) (ht : t ≤ 1048576) (hd : DAt w g 0 0 t 0 0) (hm : MaxOk w) (hs : Lib.hasSuffix p [13, 10] = true) (h8 : (Ck.digs (Lib.trimSuffix p [13, 10])).length ≤ 8) (hv : Oct.value (Oct.trim (Ck.extn (Lib.trimSuffix p [13, 10]))) = true) (hn : Oct.number 16 ((1048576 - t : Nat) : Int) (Ck.digs (Lib.trimSuffix p [13, 10])) = (0, 0)) (hT : Ck.tkSize t p = (.trail 0, 0)) (hsem : ¬ St.upto 59 (Lib.trimSuffix p [13, 10]) < (Lib.trimSuffix p [13, 10]).length) :
    Calls Tryd.prog 27 #[.pointer (some ⟨g, 0, none⟩), .string (str p)] w fun x w' => x = .returned (.int .i64 (Ck.tkSize t p).2) ∧ But g w w' ∧ Dst w' g (Ck.tkSize t p).1 0 := by
  have HA : Hid (∀ W : World, Below w.heap.size w W → DAt W g 0 0 t 0 0) := Lib.hid (fun W hb => hd.later hb)
  have HD : Hid (∀ W : World, Below w.heap.size w W → Dst W g (.size t) 0) := Lib.hid (fun W hb => ⟨ht, hd.later hb⟩)
  have cX := Cut_w (str p) w (by rw [str_size]; omega)
  rw [str_list] at cX
  have hlen : (Lib.trimSuffix p [13, 10]).length ≤ 1000 := Nat.le_trans (Ck.trim_len p) hp
  have cS := Semi_no (Lib.trimSuffix p [13, 10]) w (by omega) hm hsem
  have hdl := Ck.digs_len (Lib.trimSuffix p [13, 10])
  have hel : (Ck.extn (Lib.trimSuffix p [13, 10])).length ≤ 1000 := by unfold Ck.extn; rw [List.length_drop]; omega
  have hdg : Ck.digs (Lib.trimSuffix p [13, 10]) = Lib.trimSuffix p [13, 10] := by unfold Ck.digs; rw [if_neg hsem]
  have cS : Calls Tryd.prog 36 #[.string (str (Lib.trimSuffix p [13, 10])), .string ⟨#[59]⟩] w fun e w' => e = .returned (.tuple #[.string (str (Ck.digs (Lib.trimSuffix p [13, 10]))), .string (str (Ck.extn (Lib.trimSuffix p [13, 10]))), .bool false]) ∧ Below w.heap.size w w' := by rw [hdg]; exact cS
  have hds : (str (Ck.digs (Lib.trimSuffix p [13, 10]))).size = (Ck.digs (Lib.trimSuffix p [13, 10])).length := str_size _
  have cT := fun (W : World) => Trim_s (str (Ck.extn (Lib.trimSuffix p [13, 10]))) W (by rw [str_size]; omega)
  rw [str_list] at cT
  have cV := fun (W : World) => Value_s (str (Oct.trim (Ck.extn (Lib.trimSuffix p [13, 10])))) W (by rw [str_size]; have := Oct.trim_len (Ck.extn (Lib.trimSuffix p [13, 10])); omega)
  rw [str_list] at cV
  rw [hs] at cX
  rw [hv] at cV
  have hdz : ¬ (8 : Int) < ((str (Ck.digs (Lib.trimSuffix p [13, 10]))).size : Int) := by omega
  obtain ⟨M, hM⟩ : ∃ M : Int, M = ((1048576 - t : Nat) : Int) := ⟨_, rfl⟩
  have hMt : (1048576 : Int) - t = M := by omega
  have hM0 : (0 : Int) ≤ M := by omega
  have hM1 : M ≤ (1048576 : Int) := by omega
  have hti : (t : Int) ≤ 1048576 := by omega
  have HT := Lib.hid hT
  have cN := fun (W : World) => Hex_is (str (Ck.digs (Lib.trimSuffix p [13, 10]))) M 0 0 W (by omega) (by omega) (by omega) (by rw [str_list, hM]; exact hn)
  clear hel hdl hds h8 hv hn hM hT
  clear hdg hlen hd hm hp hs hsem ht
  generalize str (Ck.digs (Lib.trimSuffix p [13, 10])) = D at *
  generalize str (Oct.trim (Ck.extn (Lib.trimSuffix p [13, 10]))) = E2 at *
  generalize str (Ck.extn (Lib.trimSuffix p [13, 10])) = E at *
  generalize str (Lib.trimSuffix p [13, 10]) = Y at *
  generalize str p = X at *
  go_enter Tryd.func27, Tryd.ntmps27
  go_wp2_with fail
  refine cX.mono ?_
  rintro e W1 ⟨rfl, rfl⟩
  go_wp2_with fail
  refine cS.mono ?_
  rintro e W2 ⟨rfl, hb2⟩
  go_wp2_with fail
  refine (cT W2).mono ?_
  rintro e W4 ⟨rfl, hb4'⟩
  have hb4 := bt5 hb2 hb4'
  go_wp2_with fail
  refine (cV W4).mono ?_
  rintro e W5 ⟨rfl, hb5'⟩
  have hb5 := bt5 hb4 hb5'
  have hd5 := HA.out W5 hb5
  obtain ⟨c0, c1, c2, c3, c4⟩ := hd5.cells
  go_wp2_with fail
  refine (cN W5).mono ?_
  rintro e W6 ⟨rfl, hb6'⟩
  have hb6 := bt5 hb5 hb6'
  clear c0 c1 c2 c3 c4 hd5
  have hd6 := HA.out W6 hb6
  have hB6 : But g w W6 := But.of hb6
  obtain ⟨c0, c1, c2, c3, c4⟩ := hd6.cells
  have q1 := hd6.free 1
  go_upto_region 11 with fail
  have hd7 : DAt (W6.setCell ⟨g, 1, none⟩ (.int .i64 0)) g 0 0 t 0 0 := hd6.put 1 _ rfl
  have hB7 := hB6.put 1 (.int .i64 0)
  generalize W6.setCell ⟨g, 1, none⟩ (.int .i64 0) = W7 at *
  obtain ⟨c0, c1, c2, c3, c4⟩ := hd7.cells
  have q2 := hd7.free 2
  go_upto_region 12 with fail
  have hd8 : DAt (W7.setCell ⟨g, 2, none⟩ (.int .i64 t)) g 0 0 t 0 0 := hd7.put 2 _ rfl
  have hB8 := hB7.put 2 (.int .i64 t)
  generalize W7.setCell ⟨g, 2, none⟩ (.int .i64 t) = W8 at *
  obtain ⟨c0, c1, c2, c3, c4⟩ := hd8.cells
  have q3 := hd8.free 0
  go_upto_region 13 with fail
  have hd9 : DAt (W8.setCell ⟨g, 0, none⟩ (.int .i64 1)) g 1 0 t 0 0 := hd8.put 0 _ rfl
  have hB9 := hB8.put 0 (.int .i64 1)
  generalize W8.setCell ⟨g, 0, none⟩ (.int .i64 1) = W9 at *
  obtain ⟨c0, c1, c2, c3, c4⟩ := hd9.cells
  have q4 := hd9.free 0
  clear hd7 hB7 hd8 hB8 hd6 hB6
  go_wp2_with fail
  go_ret
  rw [HT.out]
  exact ⟨rfl, hB9.put 0 _, Nat.zero_le _, (t : Int), hd9.put (a' := 3) (n' := 0) (t' := t) (k' := 0) (e' := 0) 0 (.int .i64 3) rfl⟩
set_option maxHeartbeats 3200000 in
set_option maxRecDepth 100000 in
theorem size_next_y (g t : Nat) (p : List UInt8) (w : World) (hp : p.length ≤ 1000) (ht : t ≤ 1048576) (hd : DAt w g 0 0 t 0 0) (hm : MaxOk w) (hs : Lib.hasSuffix p [13, 10] = true) (h8 : (Ck.digs (Lib.trimSuffix p [13, 10])).length ≤ 8) (hv : Oct.value (Oct.trim (Ck.extn (Lib.trimSuffix p [13, 10]))) = true) (v : Nat) (h0 : v ≠ 0) (hvM : v ≤ 1048576 - t) (hn : Oct.number 16 ((1048576 - t : Nat) : Int) (Ck.digs (Lib.trimSuffix p [13, 10])) = ((v : Int), 0)) (hT : Ck.tkSize t p = (.data (t + v) v, 0)) (hsem : St.upto 59 (Lib.trimSuffix p [13, 10]) < (Lib.trimSuffix p [13, 10]).length) :
    Calls Tryd.prog 27 #[.pointer (some ⟨g, 0, none⟩), .string (str p)] w fun x w' => x = .returned (.int .i64 (Ck.tkSize t p).2) ∧ But g w w' ∧ Dst w' g (Ck.tkSize t p).1 0 := by
  have HA : Hid (∀ W : World, Below w.heap.size w W → DAt W g 0 0 t 0 0) := Lib.hid (fun W hb => hd.later hb)
  have HD : Hid (∀ W : World, Below w.heap.size w W → Dst W g (.size t) 0) := Lib.hid (fun W hb => ⟨ht, hd.later hb⟩)
  have cX := Cut_w (str p) w (by rw [str_size]; omega)
  rw [str_list] at cX
  have hlen : (Lib.trimSuffix p [13, 10]).length ≤ 1000 := Nat.le_trans (Ck.trim_len p) hp
  have cS := Semi_yes (Lib.trimSuffix p [13, 10]) w (by omega) hm hsem
  have hdl := Ck.digs_len (Lib.trimSuffix p [13, 10])
  have hel : (Ck.extn (Lib.trimSuffix p [13, 10])).length ≤ 1000 := by unfold Ck.extn; rw [List.length_drop]; omega
  have cR := fun (W : World) => TrimR_s (str ((Lib.trimSuffix p [13, 10]).take (St.upto 59 (Lib.trimSuffix p [13, 10])))) W (by rw [str_size, List.length_take]; omega)
  have hdg : Ck.digs (Lib.trimSuffix p [13, 10]) = Oct.dropR ((Lib.trimSuffix p [13, 10]).take (St.upto 59 (Lib.trimSuffix p [13, 10]))) := by unfold Ck.digs; rw [if_pos hsem]
  rw [str_list, ← hdg] at cR
  have hds : (str (Ck.digs (Lib.trimSuffix p [13, 10]))).size = (Ck.digs (Lib.trimSuffix p [13, 10])).length := str_size _
  have cT := fun (W : World) => Trim_s (str (Ck.extn (Lib.trimSuffix p [13, 10]))) W (by rw [str_size]; omega)
  rw [str_list] at cT
  have cV := fun (W : World) => Value_s (str (Oct.trim (Ck.extn (Lib.trimSuffix p [13, 10])))) W (by rw [str_size]; have := Oct.trim_len (Ck.extn (Lib.trimSuffix p [13, 10])); omega)
  rw [str_list] at cV
  rw [hs] at cX
  rw [hv] at cV
  have hdz : ¬ (8 : Int) < ((str (Ck.digs (Lib.trimSuffix p [13, 10]))).size : Int) := by omega
  obtain ⟨M, hM⟩ : ∃ M : Int, M = ((1048576 - t : Nat) : Int) := ⟨_, rfl⟩
  have hMt : (1048576 : Int) - t = M := by omega
  have hM0 : (0 : Int) ≤ M := by omega
  have hM1 : M ≤ (1048576 : Int) := by omega
  have hti : (t : Int) ≤ 1048576 := by omega
  have HT := Lib.hid hT
  have cN := fun (W : World) => Hex_is (str (Ck.digs (Lib.trimSuffix p [13, 10]))) M v 0 W (by omega) (by omega) (by omega) (by rw [str_list, hM]; exact hn)
  have hvi : (v : Int) ≤ 1048576 := by omega
  have HG : Hid (Ck.Good (.data (t + v) v)) := Lib.hid (by rw [hM] at *; exact ⟨by omega, by omega, by omega⟩)
  have hv0 : ((v : Int) == 0) = false := beq_eq_false_iff_ne.2 (by omega)
  have hv1 : ¬ (v : Int) = 0 := by omega
  clear h0 hel hdl hds h8 hv hn hM hT hvM
  clear hdg hlen hd hm hp hs hsem ht
  generalize str (Ck.digs (Lib.trimSuffix p [13, 10])) = D at *
  generalize str (Oct.trim (Ck.extn (Lib.trimSuffix p [13, 10]))) = E2 at *
  generalize str (Ck.extn (Lib.trimSuffix p [13, 10])) = E at *
  generalize str ((Lib.trimSuffix p [13, 10]).take (St.upto 59 (Lib.trimSuffix p [13, 10]))) = E0 at *
  generalize str (Lib.trimSuffix p [13, 10]) = Y at *
  generalize str p = X at *
  go_enter Tryd.func27, Tryd.ntmps27
  go_wp2_with fail
  refine cX.mono ?_
  rintro e W1 ⟨rfl, rfl⟩
  go_wp2_with fail
  refine cS.mono ?_
  rintro e W2 ⟨rfl, hb2⟩
  go_wp2_with fail
  refine (cR W2).mono ?_
  rintro e W3 ⟨rfl, hb3'⟩
  have hb3 := bt5 hb2 hb3'
  go_wp2_with fail
  refine (cT W3).mono ?_
  rintro e W4 ⟨rfl, hb4'⟩
  have hb4 := bt5 hb3 hb4'
  go_wp2_with fail
  refine (cV W4).mono ?_
  rintro e W5 ⟨rfl, hb5'⟩
  have hb5 := bt5 hb4 hb5'
  have hd5 := HA.out W5 hb5
  obtain ⟨c0, c1, c2, c3, c4⟩ := hd5.cells
  go_wp2_with fail
  refine (cN W5).mono ?_
  rintro e W6 ⟨rfl, hb6'⟩
  have hb6 := bt5 hb5 hb6'
  clear c0 c1 c2 c3 c4 hd5
  have hd6 := HA.out W6 hb6
  have hB6 : But g w W6 := But.of hb6
  obtain ⟨c0, c1, c2, c3, c4⟩ := hd6.cells
  have q1 := hd6.free 1
  go_upto_region 11 with fail
  have hd7 : DAt (W6.setCell ⟨g, 1, none⟩ (.int .i64 v)) g 0 v t 0 0 := hd6.put 1 _ rfl
  have hB7 := hB6.put 1 (.int .i64 v)
  generalize W6.setCell ⟨g, 1, none⟩ (.int .i64 v) = W7 at *
  obtain ⟨c0, c1, c2, c3, c4⟩ := hd7.cells
  have q2 := hd7.free 2
  go_upto_region 12 with fail
  have hd8 : DAt (W7.setCell ⟨g, 2, none⟩ (.int .i64 ((t : Int) + v))) g 0 v (t + v) 0 0 := hd7.put 2 _ rfl
  have hB8 := hB7.put 2 (.int .i64 ((t : Int) + v))
  generalize W7.setCell ⟨g, 2, none⟩ (.int .i64 ((t : Int) + v)) = W8 at *
  obtain ⟨c0, c1, c2, c3, c4⟩ := hd8.cells
  have q3 := hd8.free 0
  go_upto_region 13 with fail
  have hd9 : DAt (W8.setCell ⟨g, 0, none⟩ (.int .i64 1)) g 1 v (t + v) 0 0 := hd8.put 0 _ rfl
  have hB9 := hB8.put 0 (.int .i64 1)
  generalize W8.setCell ⟨g, 0, none⟩ (.int .i64 1) = W9 at *
  obtain ⟨c0, c1, c2, c3, c4⟩ := hd9.cells
  have q4 := hd9.free 0
  clear hd7 hB7 hd8 hB8 hd6 hB6
  go_wp2_with fail
  go_ret
  rw [HT.out]
  exact ⟨rfl, hB9, HG.out, hd9⟩
set_option maxHeartbeats 3200000 in
set_option maxRecDepth 100000 in
theorem size_next_n (g t : Nat) (p : List UInt8) (w : World) (hp : p.length ≤ 1000) (ht : t ≤ 1048576) (hd : DAt w g 0 0 t 0 0) (hm : MaxOk w) (hs : Lib.hasSuffix p [13, 10] = true) (h8 : (Ck.digs (Lib.trimSuffix p [13, 10])).length ≤ 8) (hv : Oct.value (Oct.trim (Ck.extn (Lib.trimSuffix p [13, 10]))) = true) (v : Nat) (h0 : v ≠ 0) (hvM : v ≤ 1048576 - t) (hn : Oct.number 16 ((1048576 - t : Nat) : Int) (Ck.digs (Lib.trimSuffix p [13, 10])) = ((v : Int), 0)) (hT : Ck.tkSize t p = (.data (t + v) v, 0)) (hsem : ¬ St.upto 59 (Lib.trimSuffix p [13, 10]) < (Lib.trimSuffix p [13, 10]).length) :
    Calls Tryd.prog 27 #[.pointer (some ⟨g, 0, none⟩), .string (str p)] w fun x w' => x = .returned (.int .i64 (Ck.tkSize t p).2) ∧ But g w w' ∧ Dst w' g (Ck.tkSize t p).1 0 := by
  have HA : Hid (∀ W : World, Below w.heap.size w W → DAt W g 0 0 t 0 0) := Lib.hid (fun W hb => hd.later hb)
  have HD : Hid (∀ W : World, Below w.heap.size w W → Dst W g (.size t) 0) := Lib.hid (fun W hb => ⟨ht, hd.later hb⟩)
  have cX := Cut_w (str p) w (by rw [str_size]; omega)
  rw [str_list] at cX
  have hlen : (Lib.trimSuffix p [13, 10]).length ≤ 1000 := Nat.le_trans (Ck.trim_len p) hp
  have cS := Semi_no (Lib.trimSuffix p [13, 10]) w (by omega) hm hsem
  have hdl := Ck.digs_len (Lib.trimSuffix p [13, 10])
  have hel : (Ck.extn (Lib.trimSuffix p [13, 10])).length ≤ 1000 := by unfold Ck.extn; rw [List.length_drop]; omega
  have hdg : Ck.digs (Lib.trimSuffix p [13, 10]) = Lib.trimSuffix p [13, 10] := by unfold Ck.digs; rw [if_neg hsem]
  have cS : Calls Tryd.prog 36 #[.string (str (Lib.trimSuffix p [13, 10])), .string ⟨#[59]⟩] w fun e w' => e = .returned (.tuple #[.string (str (Ck.digs (Lib.trimSuffix p [13, 10]))), .string (str (Ck.extn (Lib.trimSuffix p [13, 10]))), .bool false]) ∧ Below w.heap.size w w' := by rw [hdg]; exact cS
  have hds : (str (Ck.digs (Lib.trimSuffix p [13, 10]))).size = (Ck.digs (Lib.trimSuffix p [13, 10])).length := str_size _
  have cT := fun (W : World) => Trim_s (str (Ck.extn (Lib.trimSuffix p [13, 10]))) W (by rw [str_size]; omega)
  rw [str_list] at cT
  have cV := fun (W : World) => Value_s (str (Oct.trim (Ck.extn (Lib.trimSuffix p [13, 10])))) W (by rw [str_size]; have := Oct.trim_len (Ck.extn (Lib.trimSuffix p [13, 10])); omega)
  rw [str_list] at cV
  rw [hs] at cX
  rw [hv] at cV
  have hdz : ¬ (8 : Int) < ((str (Ck.digs (Lib.trimSuffix p [13, 10]))).size : Int) := by omega
  obtain ⟨M, hM⟩ : ∃ M : Int, M = ((1048576 - t : Nat) : Int) := ⟨_, rfl⟩
  have hMt : (1048576 : Int) - t = M := by omega
  have hM0 : (0 : Int) ≤ M := by omega
  have hM1 : M ≤ (1048576 : Int) := by omega
  have hti : (t : Int) ≤ 1048576 := by omega
  have HT := Lib.hid hT
  have cN := fun (W : World) => Hex_is (str (Ck.digs (Lib.trimSuffix p [13, 10]))) M v 0 W (by omega) (by omega) (by omega) (by rw [str_list, hM]; exact hn)
  have hvi : (v : Int) ≤ 1048576 := by omega
  have HG : Hid (Ck.Good (.data (t + v) v)) := Lib.hid (by rw [hM] at *; exact ⟨by omega, by omega, by omega⟩)
  have hv0 : ((v : Int) == 0) = false := beq_eq_false_iff_ne.2 (by omega)
  have hv1 : ¬ (v : Int) = 0 := by omega
  clear h0 hel hdl hds h8 hv hn hM hT hvM
  clear hdg hlen hd hm hp hs hsem ht
  generalize str (Ck.digs (Lib.trimSuffix p [13, 10])) = D at *
  generalize str (Oct.trim (Ck.extn (Lib.trimSuffix p [13, 10]))) = E2 at *
  generalize str (Ck.extn (Lib.trimSuffix p [13, 10])) = E at *
  generalize str (Lib.trimSuffix p [13, 10]) = Y at *
  generalize str p = X at *
  go_enter Tryd.func27, Tryd.ntmps27
  go_wp2_with fail
  refine cX.mono ?_
  rintro e W1 ⟨rfl, rfl⟩
  go_wp2_with fail
  refine cS.mono ?_
  rintro e W2 ⟨rfl, hb2⟩
  go_wp2_with fail
  refine (cT W2).mono ?_
  rintro e W4 ⟨rfl, hb4'⟩
  have hb4 := bt5 hb2 hb4'
  go_wp2_with fail
  refine (cV W4).mono ?_
  rintro e W5 ⟨rfl, hb5'⟩
  have hb5 := bt5 hb4 hb5'
  have hd5 := HA.out W5 hb5
  obtain ⟨c0, c1, c2, c3, c4⟩ := hd5.cells
  go_wp2_with fail
  refine (cN W5).mono ?_
  rintro e W6 ⟨rfl, hb6'⟩
  have hb6 := bt5 hb5 hb6'
  clear c0 c1 c2 c3 c4 hd5
  have hd6 := HA.out W6 hb6
  have hB6 : But g w W6 := But.of hb6
  obtain ⟨c0, c1, c2, c3, c4⟩ := hd6.cells
  have q1 := hd6.free 1
  go_upto_region 11 with fail
  have hd7 : DAt (W6.setCell ⟨g, 1, none⟩ (.int .i64 v)) g 0 v t 0 0 := hd6.put 1 _ rfl
  have hB7 := hB6.put 1 (.int .i64 v)
  generalize W6.setCell ⟨g, 1, none⟩ (.int .i64 v) = W7 at *
  obtain ⟨c0, c1, c2, c3, c4⟩ := hd7.cells
  have q2 := hd7.free 2
  go_upto_region 12 with fail
  have hd8 : DAt (W7.setCell ⟨g, 2, none⟩ (.int .i64 ((t : Int) + v))) g 0 v (t + v) 0 0 := hd7.put 2 _ rfl
  have hB8 := hB7.put 2 (.int .i64 ((t : Int) + v))
  generalize W7.setCell ⟨g, 2, none⟩ (.int .i64 ((t : Int) + v)) = W8 at *
  obtain ⟨c0, c1, c2, c3, c4⟩ := hd8.cells
  have q3 := hd8.free 0
  go_upto_region 13 with fail
  have hd9 : DAt (W8.setCell ⟨g, 0, none⟩ (.int .i64 1)) g 1 v (t + v) 0 0 := hd8.put 0 _ rfl
  have hB9 := hB8.put 0 (.int .i64 1)
  generalize W8.setCell ⟨g, 0, none⟩ (.int .i64 1) = W9 at *
  obtain ⟨c0, c1, c2, c3, c4⟩ := hd9.cells
  have q4 := hd9.free 0
  clear hd7 hB7 hd8 hB8 hd6 hB6
  go_wp2_with fail
  go_ret
  rw [HT.out]
  exact ⟨rfl, hB9, HG.out, hd9⟩
theorem size_form (g t : Nat) (p : List UInt8) (w : World) (hp : p.length ≤ 1000) (ht : t ≤ 1048576) (hd : DAt w g 0 0 t 0 0) (hm : MaxOk w) (hs : Lib.hasSuffix p [13, 10] = false) :
    Calls Tryd.prog 27 #[.pointer (some ⟨g, 0, none⟩), .string (str p)] w fun x w' => x = .returned (.int .i64 (Ck.tkSize t p).2) ∧ But g w w' ∧ Dst w' g (Ck.tkSize t p).1 0 := by
  by_cases hsem : St.upto 59 (Lib.trimSuffix p [13, 10]) < (Lib.trimSuffix p [13, 10]).length
  · exact size_form_y g t p w hp ht hd hm hs hsem
  · exact size_form_n g t p w hp ht hd hm hs hsem
theorem size_digits (g t : Nat) (p : List UInt8) (w : World) (hp : p.length ≤ 1000) (ht : t ≤ 1048576) (hd : DAt w g 0 0 t 0 0) (hm : MaxOk w) (hs : Lib.hasSuffix p [13, 10] = true) (h8 : 8 < (Ck.digs (Lib.trimSuffix p [13, 10])).length) :
    Calls Tryd.prog 27 #[.pointer (some ⟨g, 0, none⟩), .string (str p)] w fun x w' => x = .returned (.int .i64 (Ck.tkSize t p).2) ∧ But g w w' ∧ Dst w' g (Ck.tkSize t p).1 0 := by
  by_cases hsem : St.upto 59 (Lib.trimSuffix p [13, 10]) < (Lib.trimSuffix p [13, 10]).length
  · exact size_digits_y g t p w hp ht hd hm hs h8 hsem
  · exact size_digits_n g t p w hp ht hd hm hs h8 hsem
theorem size_value (g t : Nat) (p : List UInt8) (w : World) (hp : p.length ≤ 1000) (ht : t ≤ 1048576) (hd : DAt w g 0 0 t 0 0) (hm : MaxOk w) (hs : Lib.hasSuffix p [13, 10] = true) (h8 : (Ck.digs (Lib.trimSuffix p [13, 10])).length ≤ 8) (hv : Oct.value (Oct.trim (Ck.extn (Lib.trimSuffix p [13, 10]))) = false) :
    Calls Tryd.prog 27 #[.pointer (some ⟨g, 0, none⟩), .string (str p)] w fun x w' => x = .returned (.int .i64 (Ck.tkSize t p).2) ∧ But g w w' ∧ Dst w' g (Ck.tkSize t p).1 0 := by
  by_cases hsem : St.upto 59 (Lib.trimSuffix p [13, 10]) < (Lib.trimSuffix p [13, 10]).length
  · exact size_value_y g t p w hp ht hd hm hs h8 hv hsem
  · exact size_value_n g t p w hp ht hd hm hs h8 hv hsem
theorem size_not (g t : Nat) (p : List UInt8) (w : World) (hp : p.length ≤ 1000) (ht : t ≤ 1048576) (hd : DAt w g 0 0 t 0 0) (hm : MaxOk w) (hs : Lib.hasSuffix p [13, 10] = true) (h8 : (Ck.digs (Lib.trimSuffix p [13, 10])).length ≤ 8) (hv : Oct.value (Oct.trim (Ck.extn (Lib.trimSuffix p [13, 10]))) = true) (er : Int) (he : er ≠ 0) (hn : Oct.number 16 ((1048576 - t : Nat) : Int) (Ck.digs (Lib.trimSuffix p [13, 10])) = (0, er)) (hT : Ck.tkSize t p = (.size t, er)) :
    Calls Tryd.prog 27 #[.pointer (some ⟨g, 0, none⟩), .string (str p)] w fun x w' => x = .returned (.int .i64 (Ck.tkSize t p).2) ∧ But g w w' ∧ Dst w' g (Ck.tkSize t p).1 0 := by
  by_cases hsem : St.upto 59 (Lib.trimSuffix p [13, 10]) < (Lib.trimSuffix p [13, 10]).length
  · exact size_not_y g t p w hp ht hd hm hs h8 hv er he hn hT hsem
  · exact size_not_n g t p w hp ht hd hm hs h8 hv er he hn hT hsem
theorem size_last (g t : Nat) (p : List UInt8) (w : World) (hp : p.length ≤ 1000) (ht : t ≤ 1048576) (hd : DAt w g 0 0 t 0 0) (hm : MaxOk w) (hs : Lib.hasSuffix p [13, 10] = true) (h8 : (Ck.digs (Lib.trimSuffix p [13, 10])).length ≤ 8) (hv : Oct.value (Oct.trim (Ck.extn (Lib.trimSuffix p [13, 10]))) = true) (hn : Oct.number 16 ((1048576 - t : Nat) : Int) (Ck.digs (Lib.trimSuffix p [13, 10])) = (0, 0)) (hT : Ck.tkSize t p = (.trail 0, 0)) :
    Calls Tryd.prog 27 #[.pointer (some ⟨g, 0, none⟩), .string (str p)] w fun x w' => x = .returned (.int .i64 (Ck.tkSize t p).2) ∧ But g w w' ∧ Dst w' g (Ck.tkSize t p).1 0 := by
  by_cases hsem : St.upto 59 (Lib.trimSuffix p [13, 10]) < (Lib.trimSuffix p [13, 10]).length
  · exact size_last_y g t p w hp ht hd hm hs h8 hv hn hT hsem
  · exact size_last_n g t p w hp ht hd hm hs h8 hv hn hT hsem
theorem size_next (g t : Nat) (p : List UInt8) (w : World) (hp : p.length ≤ 1000) (ht : t ≤ 1048576) (hd : DAt w g 0 0 t 0 0) (hm : MaxOk w) (hs : Lib.hasSuffix p [13, 10] = true) (h8 : (Ck.digs (Lib.trimSuffix p [13, 10])).length ≤ 8) (hv : Oct.value (Oct.trim (Ck.extn (Lib.trimSuffix p [13, 10]))) = true) (v : Nat) (h0 : v ≠ 0) (hvM : v ≤ 1048576 - t) (hn : Oct.number 16 ((1048576 - t : Nat) : Int) (Ck.digs (Lib.trimSuffix p [13, 10])) = ((v : Int), 0)) (hT : Ck.tkSize t p = (.data (t + v) v, 0)) :
    Calls Tryd.prog 27 #[.pointer (some ⟨g, 0, none⟩), .string (str p)] w fun x w' => x = .returned (.int .i64 (Ck.tkSize t p).2) ∧ But g w w' ∧ Dst w' g (Ck.tkSize t p).1 0 := by
  by_cases hsem : St.upto 59 (Lib.trimSuffix p [13, 10]) < (Lib.trimSuffix p [13, 10]).length
  · exact size_next_y g t p w hp ht hd hm hs h8 hv v h0 hvM hn hT hsem
  · exact size_next_n g t p w hp ht hd hm hs h8 hv v h0 hvM hn hT hsem
/-- A size line is taken. -/
theorem size_w (g t : Nat) (p : List UInt8) (w : World) (hp : p.length ≤ 1000) (ht : t ≤ 1048576) (hd : DAt w g 0 0 t 0 0) (hm : MaxOk w) :
    Calls Tryd.prog 27 #[.pointer (some ⟨g, 0, none⟩), .string (str p)] w fun x w' => x = .returned (.int .i64 (Ck.tkSize t p).2) ∧ But g w w' ∧ Dst w' g (Ck.tkSize t p).1 0 := by
  rcases Ck.tkSize_cases t p with ⟨h, _⟩ | ⟨hs, h8, hv, ⟨_, hn, hT⟩ | ⟨v, _, hvM, hn, hT⟩ | ⟨v, _, _, hn, hT⟩⟩
  · cases hs : Lib.hasSuffix p [13, 10] with
    | false => exact size_form g t p w hp ht hd hm hs
    | true =>
      by_cases h8 : 8 < (Ck.digs (Lib.trimSuffix p [13, 10])).length
      · exact size_digits g t p w hp ht hd hm hs h8
      · have hv : Oct.value (Oct.trim (Ck.extn (Lib.trimSuffix p [13, 10]))) = false := by
          rcases h with h | h | h
          · rw [hs] at h; cases h
          · exact absurd h h8
          · exact h
        have h8 : (Ck.digs (Lib.trimSuffix p [13, 10])).length ≤ 8 := Nat.le_of_not_lt h8
        exact size_value g t p w hp ht hd hm hs h8 hv
  · exact size_not g t p w hp ht hd hm hs h8 hv 10 (by decide) hn hT
  · by_cases h0 : v = 0
    · rw [if_pos h0] at hT
      rw [h0] at hn
      exact size_last g t p w hp ht hd hm hs h8 hv hn hT
    · rw [if_neg h0] at hT
      exact size_next g t p w hp ht hd hm hs h8 hv v h0 hvM hn hT
  · exact size_not g t p w hp ht hd hm hs h8 hv 12 (by decide) hn hT
end Go.Proofs.YtgnopcghobaoiaaDoor
