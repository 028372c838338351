/-
  Put together out of texts of one chain: what they hold stands ahead of each.
-/
import Derived.Test.YtdikmlnpclklnaaGreatDoorGSlotScripts10
import Derived.Test.YtdikmlnpclklnaaGreatDoorGSlotScripts21
import Derived.Test.YtdikmlnpclklnaaGreatDoorWireRefEncode
import Derived.Test.YtdikmlnpclklnaaGreatDoorSame
/-
  The chapter's example; the document's frame.
-/
namespace Go.Proofs.YtdikmlnpclklnaaGreatDoor.Slot
open Go Go.RowKit Go.Lib Go.Proofs.YtdikmlnpclklnaaGreatDoor.Law Go.Proofs.YtdikmlnpclklnaaGreatDoor.Disk

theorem pay_le (n : Int) (s : ByteArray) : (pay n s).length ≤ 22 + s.size := by
  have h := Wire.bytesL_le (msg n s)
  have h1 : Wire.nodesL (msg n s) = 2 := by simp [msg, Wire.nodesL, Wire.Item.nodes]
  have h2 : Wire.strsL (msg n s) = s.size := by
    simp only [msg, Wire.strsL, Wire.Item.strs]
    have : (⟨#[]⟩ : ByteArray).size = 0 := rfl
    omega
  rw [h1, h2] at h
  show (Wire.bytesL (msg n s)).length ≤ _
  omega
theorem frm_le (n : Int) (s : ByteArray) : (frm n s).length ≤ 34 + s.size := by
  have h := pay_le n s
  show (Frame.frameN (pay n s)).length ≤ _
  rw [Frame.frameN_length]; omega
theorem pay_lt (n : Int) (s : ByteArray) (hn : -9223372036854775808 ≤ n ∧ n ≤ 9223372036854775807) (hs : s.size ≤ 60000) : ∀ x ∈ pay n s, x < 256 := by
  have z0 : Wire.Item.no (.mk 0 n ⟨#[]⟩ []) < 18446744073709551616 := Wire.zig_lt hn.1 hn.2
  have z1 : Wire.Item.no (.mk 1 0 s []) < 18446744073709551616 := by show s.size < _; omega
  intro x hx
  simp only [pay, msg, Wire.bytesL, Wire.Item.bytes, List.append_nil, List.mem_append, List.mem_cons] at hx
  rcases hx with (rfl | hx | hx) | (rfl | hx | hx)
  · decide
  · exact Wire.num_lt z0 x hx
  · exact Wire.sb_lt _ x hx
  · decide
  · exact Wire.num_lt z1 x hx
  · exact Wire.sb_lt _ x hx
theorem frm_lt (n : Int) (s : ByteArray) (hn : -9223372036854775808 ≤ n ∧ n ≤ 9223372036854775807) (hs : s.size ≤ 60000) : ∀ x ∈ frm n s, x < 256 := Frame.frameN_lt (pay_lt n s hn hs)
theorem Dx.wf {Fr : Nat → Prop} {w W : World} {db : Nat} {D : DS} (h : Dx Fr w db D W) : WF D := by
  obtain ⟨O, _, _, _, h4, _⟩ := h
  exact h4

set_option maxRecDepth 100000 in
set_option maxHeartbeats 2000000 in
theorem frame_calls (n : Int) (s : ByteArray) (hn : -9223372036854775808 ≤ n ∧ n ≤ 9223372036854775807) (hs : s.size ≤ 60000) (W : World) :
    Calls Tryz.prog 62 #[.int .i64 n, .string s] W fun e W' => ∃ A l c, e = .returned (.slice A l c) ∧ Bytes W'.heap.size W' (.slice A l c) (frm n s) ∧ Below W.heap.size W W' := by
  have CE : Hid (Calls Tryz.prog 92 #[.slice (some ⟨W.heap.size, 0, none⟩) 2 2] (laid W n s) fun e W3 => ∃ A l c, e = .returned (.tuple #[.slice A l c, .int .i64 0]) ∧ Hid (Bytes W3.heap.size W3 (.slice A l c) (pay n s) ∧ Below W.heap.size W W3)) := Lib.hid (by
    refine (Wire.refencode_calls (msg n s) (msg_sized n s hn hs) (by simp [msg]) _ _ (laid_old W n s)).mono ?_
    rintro e W3 ⟨v3, rfl, hO, hB3⟩
    rw [enc_msg n s hs] at hO ⊢
    have hl := laid_below W n s
    obtain ⟨A, c, rfl⟩ := hO.bytes.form
    exact ⟨A, _, c, rfl, Lib.hid ⟨hO.bytes, hl.trans (hB3.mono hl.size)⟩⟩)
  have CP : Hid (∀ W3 A l c, Below W.heap.size W W3 → Bytes W3.heap.size W3 (.slice A l c) (pay n s) → Calls Tryz.prog 93 #[.slice A l c] W3 fun e W4 => ∃ A4 l4 c4, e = .returned (.tuple #[.slice A4 l4 c4, .int .i64 0]) ∧ Hid (Bytes W4.heap.size W4 (.slice A4 l4 c4) (frm n s) ∧ Below W.heap.size W W4)) := Lib.hid fun W3 A l c hB3 hI => by
    have hp := pay_length n s hs
    refine (Frame.refput_calls _ (pay n s) (by omega) W3 hI).mono ?_
    rintro e W4 ⟨v4, rfl, hO, hB4⟩
    rw [put_pay n s hs] at hO ⊢
    obtain ⟨A4, c4, rfl⟩ := hO.bytes.form
    exact ⟨A4, _, c4, rfl, Lib.hid ⟨hO.bytes, hB3.trans (hB4.mono hB3.size)⟩⟩
  unfold laid at CE
  clear hn hs
  go_enter Tryz.func62, Tryz.ntmps62
  go_wp2_with fail
  refine CE.out.mono ?_
  rintro e W3 ⟨A3, l3, c3, rfl, H3⟩
  have CP3 := Lib.hid (CP.out W3 A3 l3 c3 H3.out.2 H3.out.1)
  clear CP CE H3
  go_wp2_with fail
  refine CP3.out.mono ?_
  rintro e W4 ⟨A4, l4, c4, rfl, H4⟩
  go_wp2_with fail
  go_ret
  exact ⟨A4, l4, c4, rfl, H4.out.1, H4.out.2⟩

def nameN : ByteArray := ⟨#[110]⟩
theorem nameN_right : rightS nameN = true := by decide +kernel
theorem nameN_A : nameA nameN = ⟨#[110, 45, 97]⟩ := by decide +kernel
theorem nameN_B : nameB nameN = ⟨#[110, 45, 98]⟩ := by decide +kernel

set_option maxRecDepth 100000 in
set_option maxHeartbeats 4000000 in
theorem known_law (w : World) (hT : Crc.Tab w) : Calls Tryz.prog 27 #[] w fun e W => e = .returned (.bool true) ∧ Below w.heap.size w W := by
  have CN := Lib.hid (new_dk 1000 (by decide) w w (Below.refl _ _))
  have rA : rightB (⟨#[110, 45, 97]⟩ : ByteArray) = true := by decide +kernel
  have rB : rightB (⟨#[110, 45, 98]⟩ : ByteArray) = true := by decide +kernel
  have hab : (⟨#[110, 45, 97]⟩ : ByteArray) ≠ ⟨#[110, 45, 98]⟩ := by decide +kernel
  have l1 := frm_le 1 ⟨#[120]⟩
  have l2 := frm_le 2 ⟨#[121]⟩
  have z1 : (⟨#[120]⟩ : ByteArray).size = 1 := rfl
  have z2 : (⟨#[121]⟩ : ByteArray).size = 1 := rfl
  have zA : (⟨#[110, 45, 97]⟩ : ByteArray).size = 3 := rfl
  have zB : (⟨#[110, 45, 98]⟩ : ByteArray).size = 3 := rfl
  have s0 := SD.fresh 1000 (⟨#[110, 45, 97]⟩ : ByteArray) (⟨#[110, 45, 98]⟩ : ByteArray)
  have p1 := s0.put (WF.fresh 1000 (by decide)) hab rA (frm 1 ⟨#[120]⟩) (frm_lt _ _ (by omega) (by omega)) (by simp only [szO]; omega)
  have o1 : overL ((none : Option (List Nat)).getD []) 0 (frm 1 ⟨#[120]⟩) = frm 1 ⟨#[120]⟩ := by simp [overL]
  rw [o1] at p1
  obtain ⟨D1, hD1⟩ : ∃ D1, DS.put (DS.fresh 1000) (⟨#[110, 45, 97]⟩ : ByteArray) (frm 1 ⟨#[120]⟩) = D1 := ⟨_, rfl⟩
  rw [hD1] at p1
  obtain ⟨p11, p12, p13, p14⟩ := p1
  have CO : Hid (∀ db W1, Dk w db (DS.fresh 1000) W1 → Calls Tryz.prog 28 #[.pointer (some ⟨db, 0, none⟩), .string ⟨#[110]⟩] W1 (OpenO w db (DS.fresh 1000) nameN ⟨#[]⟩ 0 0)) := Lib.hid fun db W1 h => open_none w W1 db _ h (hT.below h.low) nameN nameN_right rfl rfl
  have C1 : Hid (∀ sl db W2, Dx (fun k => k = sl) w db (DS.fresh 1000) W2 → SlotB W2 sl db ⟨#[110, 45, 97]⟩ ⟨#[110, 45, 98]⟩ ⟨#[]⟩ 0 0 false → Calls Tryz.prog 30 #[.pointer (some ⟨sl, 0, none⟩), .string ⟨#[120]⟩] W2 fun e W3 => e = .returned (.int .i64 0) ∧ Hid (Dx (fun k => k = sl) w db D1 W3 ∧ SlotB W3 sl db ⟨#[110, 45, 97]⟩ ⟨#[110, 45, 98]⟩ ⟨#[120]⟩ 1 1 false)) := Lib.hid fun sl db W2 h hs => by
    refine (put_calls w W2 sl db _ _ _ ⟨#[]⟩ 0 0 (by omega) h hs (hT.below h.low) (by show 0 ≤ 4000000000; omega) (by omega) (by omega) ⟨#[120]⟩ (by omega) (by omega) p11 p12).mono ?_
    rintro e W3 ⟨rfl, h3, h4⟩
    have h3' : Dx (fun k => k = sl) w db (DS.put (DS.fresh 1000) (⟨#[110, 45, 97]⟩ : ByteArray) (frm 1 ⟨#[120]⟩)) W3 := h3
    rw [hD1] at h3'
    exact ⟨rfl, Lib.hid ⟨h3', h4⟩⟩
  have C2 : Hid (∀ sl db W2, Dx (fun k => k = sl) w db D1 W2 → SlotB W2 sl db ⟨#[110, 45, 97]⟩ ⟨#[110, 45, 98]⟩ ⟨#[120]⟩ 1 1 false → Calls Tryz.prog 30 #[.pointer (some ⟨sl, 0, none⟩), .string ⟨#[121]⟩] W2 fun e W3 => e = .returned (.int .i64 0) ∧ Hid (∃ D2, Dx (fun k => k = sl) w db D2 W3 ∧ SlotB W3 sl db ⟨#[110, 45, 97]⟩ ⟨#[110, 45, 98]⟩ ⟨#[121]⟩ 2 0 false ∧ D2.safe ⟨#[110, 45, 97]⟩ = some (frm 1 ⟨#[120]⟩))) := Lib.hid fun sl db W2 h hs => by
    obtain ⟨q1, q2, q3, _⟩ := p13.swap.put (Dx.wf h) (Ne.symm hab) rB (frm 2 ⟨#[121]⟩) (frm_lt _ _ (by omega) (by omega)) (by simp only [szO]; omega)
    refine (put_calls w W2 sl db _ _ _ ⟨#[120]⟩ 1 1 (by omega) h hs (hT.below h.low) (by rw [p14]; show 0 + 1 ≤ 4000000000; omega) (by omega) (by omega) ⟨#[121]⟩ (by omega) (by omega) q1 q2).mono ?_
    rintro e W3 ⟨rfl, h3, h4⟩
    exact ⟨rfl, Lib.hid ⟨_, h3, h4, (q3.safe _).trans q3.nowB⟩⟩
  have hc : ((⟨#[121]⟩ : ByteArray).toList == (⟨#[121]⟩ : ByteArray).toList) = true := by simp
  have CF := Lib.hid (fun W => frame_calls 1 ⟨#[120]⟩ (by omega) (by omega) W)
  clear hT l1 l2 s0 p11 p12 p13 p14 o1 hab rA rB hD1
  go_enter Tryz.func27, Tryz.ntmps27
  go_wp2_with fail
  refine CN.out.mono ?_
  rintro e W1 ⟨db, rfl, h1⟩
  have CO1 := Lib.hid (CO.out db W1 h1)
  clear h1 CO CN
  go_wp2_with fail
  refine CO1.out.mono ?_
  rintro e W2 ⟨sl, rfl, h2, h3⟩
  rw [nameN_A, nameN_B] at h3
  have CP1 := Lib.hid (C1.out sl db W2 h2 h3)
  clear h2 h3 C1 CO1
  go_wp2_with fail
  refine CP1.out.mono ?_
  rintro e W3 ⟨rfl, H3⟩
  have CP2 := Lib.hid (C2.out sl db W3 H3.out.1 H3.out.2)
  clear H3 C2 CP1
  go_wp2_with fail
  refine CP2.out.mono ?_
  rintro e W4 ⟨rfl, H4⟩
  obtain ⟨D2, h5, h6, h7⟩ := H4.out
  have CG := Lib.hid (get_calls W4 sl db 0 _ _ _ 2 false h6)
  have H5 := Lib.hid h5
  have H7 := Lib.hid h7
  clear H4 h5 h6 h7 CP2
  go_wp2_with fail
  refine CG.out.mono ?_
  rintro e W5 ⟨rfl, hB5⟩
  have h8 := H5.out.below hB5
  have CD := h8.durable ⟨#[110, 45, 97]⟩ (by show (⟨#[110, 45, 97]⟩ : ByteArray).size ≤ maxLen; rw [zA]; decide)
  rw [H7.out] at CD
  have CD := Lib.hid CD
  have H8 := Lib.hid h8
  clear hB5 h8 H5 H7 CG
  go_wp2_with fail
  refine CD.out.mono ?_
  rintro e W6 ⟨v6, rfl, hO, hB6⟩
  have hO' : OwnB W6 W5.heap.size 5 v6 (frm 1 ⟨#[120]⟩) := hO
  obtain ⟨A6, c6, rfl⟩ := hO'.bytes.form
  have HB6 := Lib.hid hB6
  have HO6 := Lib.hid hO'.bytes
  have CF6 := Lib.hid (CF.out W6)
  clear hO hO' hB6 CD CF
  go_wp2_with fail
  refine CF6.out.mono ?_
  rintro e W7 ⟨A7, l7, c7, rfl, hI7, hB7⟩
  have CS := same_calls _ _ _ _ W7 (HO6.out.on hB7) hI7
  rw [decide_eq_true rfl] at CS
  have CS := Lib.hid CS
  have HB7 := Lib.hid hB7
  clear hI7 hB7 CF6
  go_wp2_with fail
  refine CS.out.mono ?_
  rintro e W8 ⟨rfl, hW8⟩
  rw [hW8]
  clear hW8
  go_wp2_with fail
  go_ret
  exact ⟨rfl, H8.out.low.trans ((HB6.out.trans (HB7.out.mono HB6.out.size)).mono H8.out.low.size)⟩

end Go.Proofs.YtdikmlnpclklnaaGreatDoor.Slot
