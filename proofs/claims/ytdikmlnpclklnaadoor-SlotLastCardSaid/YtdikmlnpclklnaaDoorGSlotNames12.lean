/-
  Put together out of texts of one chain: what they hold stands ahead of each.
-/
import Derived.Test.YtdikmlnpclklnaaDoorGSlotNames10
import Derived.Test.YtdikmlnpclklnaaDoorGSlotNames15
import Derived.Test.YtdikmlnpclklnaaDoorWireRefEncode
import Derived.Test.YtdikmlnpclklnaaDoorSame
/-
  The chapter's example; the document's frame.
-/
namespace Go.Proofs.YtdikmlnpclklnaaDoor.Slot
open Go Go.RowKit Go.Lib Go.Proofs.YtdikmlnpclklnaaDoor.Law Go.Proofs.YtdikmlnpclklnaaDoor.Disk

theorem pay_le (n : Int) (s : ByteArray) : (pay n s).length ≤ 22 + s.size := by
  have h := Wire.bytesL_le (msg n s)
  have h1 : Wire.nodesL (msg n s) = 2 := by simp [msg, Wire.nodesL, Wire.Item.nodes]
  have h2 : Wire.strsL (msg n s) = s.size := by
    simp only [msg, Wire.strsL, Wire.Item.strs]
    have : (⟨#[]⟩ : ByteArray).size = 0 := rfl
    omega
  rw [h1, h2] at h
  show (Wire.bytesL (msg n s)).length ≤ _
  omega
theorem frm_le (n : Int) (s : ByteArray) : (frm n s).length ≤ 34 + s.size := by
  have h := pay_le n s
  show (Frame.frameN (pay n s)).length ≤ _
  rw [Frame.frameN_length]; omega
theorem pay_lt (n : Int) (s : ByteArray) (hn : -9223372036854775808 ≤ n ∧ n ≤ 9223372036854775807) (hs : s.size ≤ 60000) : ∀ x ∈ pay n s, x < 256 := by
  have z0 : Wire.Item.no (.mk 0 n ⟨#[]⟩ []) < 18446744073709551616 := Wire.zig_lt hn.1 hn.2
  have z1 : Wire.Item.no (.mk 1 0 s []) < 18446744073709551616 := by show s.size < _; omega
  intro x hx
  simp only [pay, msg, Wire.bytesL, Wire.Item.bytes, List.append_nil, List.mem_append, List.mem_cons] at hx
  rcases hx with (rfl | hx | hx) | (rfl | hx | hx)
  · decide
  · exact Wire.num_lt z0 x hx
  · exact Wire.sb_lt _ x hx
  · decide
  · exact Wire.num_lt z1 x hx
  · exact Wire.sb_lt _ x hx
theorem frm_lt (n : Int) (s : ByteArray) (hn : -9223372036854775808 ≤ n ∧ n ≤ 9223372036854775807) (hs : s.size ≤ 60000) : ∀ x ∈ frm n s, x < 256 := Frame.frameN_lt (pay_lt n s hn hs)
theorem Dx.wf {Fr : Nat → Prop} {w W : World} {db : Nat} {D : DS} (h : Dx Fr w db D W) : WF D := by
  obtain ⟨O, _, _, _, h4, _⟩ := h
  exact h4

set_option maxRecDepth 100000 in
set_option maxHeartbeats 2000000 in
theorem frame_calls (n : Int) (s : ByteArray) (hn : -9223372036854775808 ≤ n ∧ n ≤ 9223372036854775807) (hs : s.size ≤ 60000) (W : World) :
    Calls Tryd.prog 13 #[.int .i64 n, .string s] W fun e W' => ∃ A l c, e = .returned (.slice A l c) ∧ Bytes W'.heap.size W' (.slice A l c) (frm n s) ∧ Below W.heap.size W W' := by
  have CE : Hid (Calls Tryd.prog 25 #[.slice (some ⟨W.heap.size, 0, none⟩) 2 2] (laid W n s) fun e W3 => ∃ A l c, e = .returned (.tuple #[.slice A l c, .int .i64 0]) ∧ Hid (Bytes W3.heap.size W3 (.slice A l c) (pay n s) ∧ Below W.heap.size W W3)) := Lib.hid (by
    refine (Wire.refencode_calls (msg n s) (msg_sized n s hn hs) (by simp [msg]) _ _ (laid_old W n s)).mono ?_
    rintro e W3 ⟨v3, rfl, hO, hB3⟩
    rw [enc_msg n s hs] at hO ⊢
    have hl := laid_below W n s
    obtain ⟨A, c, rfl⟩ := hO.bytes.form
    exact ⟨A, _, c, rfl, Lib.hid ⟨hO.bytes, hl.trans (hB3.mono hl.size)⟩⟩)
  have CP : Hid (∀ W3 A l c, Below W.heap.size W W3 → Bytes W3.heap.size W3 (.slice A l c) (pay n s) → Calls Tryd.prog 26 #[.slice A l c] W3 fun e W4 => ∃ A4 l4 c4, e = .returned (.tuple #[.slice A4 l4 c4, .int .i64 0]) ∧ Hid (Bytes W4.heap.size W4 (.slice A4 l4 c4) (frm n s) ∧ Below W.heap.size W W4)) := Lib.hid fun W3 A l c hB3 hI => by
    have hp := pay_length n s hs
    refine (Frame.refput_calls _ (pay n s) (by omega) W3 hI).mono ?_
    rintro e W4 ⟨v4, rfl, hO, hB4⟩
    rw [put_pay n s hs] at hO ⊢
    obtain ⟨A4, c4, rfl⟩ := hO.bytes.form
    exact ⟨A4, _, c4, rfl, Lib.hid ⟨hO.bytes, hB3.trans (hB4.mono hB3.size)⟩⟩
  unfold laid at CE
  clear hn hs
  go_enter Tryd.func13, Tryd.ntmps13
  go_wp2_with fail
  refine CE.out.mono ?_
  rintro e W3 ⟨A3, l3, c3, rfl, H3⟩
  have CP3 := Lib.hid (CP.out W3 A3 l3 c3 H3.out.2 H3.out.1)
  clear CP CE H3
  go_wp2_with fail
  refine CP3.out.mono ?_
  rintro e W4 ⟨A4, l4, c4, rfl, H4⟩
  go_wp2_with fail
  go_ret
  exact ⟨A4, l4, c4, rfl, H4.out.1, H4.out.2⟩

def nameN : ByteArray := ⟨#[110]⟩
theorem nameN_right : rightS nameN = true := by decide +kernel
theorem nameN_A : nameA nameN = ⟨#[110, 45, 97]⟩ := by decide +kernel
theorem nameN_B : nameB nameN = ⟨#[110, 45, 98]⟩ := by decide +kernel

set_option maxRecDepth 100000 in
set_option maxHeartbeats 4000000 in
theorem known_law (w : World) (hT : Crc.Tab w) : Calls Tryd.prog 5 #[] w fun e W => e = .returned (.bool true) ∧ Below w.heap.size w W := by
  have CN := Lib.hid (new_dk 1000 (by decide) w w (Below.refl _ _))
  have rA : rightB (⟨#[110, 45, 97]⟩ : ByteArray) = true := by decide +kernel
  have rB : rightB (⟨#[110, 45, 98]⟩ : ByteArray) = true := by decide +kernel
  have hab : (⟨#[110, 45, 97]⟩ : ByteArray) ≠ ⟨#[110, 45, 98]⟩ := by decide +kernel
  have l1 := frm_le 1 ⟨#[120]⟩
  have l2 := frm_le 2 ⟨#[121]⟩
  have z1 : (⟨#[120]⟩ : ByteArray).size = 1 := rfl
  have z2 : (⟨#[121]⟩ : ByteArray).size = 1 := rfl
  have zA : (⟨#[110, 45, 97]⟩ : ByteArray).size = 3 := rfl
  have zB : (⟨#[110, 45, 98]⟩ : ByteArray).size = 3 := rfl
  have s0 := SD.fresh 1000 (⟨#[110, 45, 97]⟩ : ByteArray) (⟨#[110, 45, 98]⟩ : ByteArray)
  have p1 := s0.put (WF.fresh 1000 (by decide)) hab rA (frm 1 ⟨#[120]⟩) (frm_lt _ _ (by omega) (by omega)) (by simp only [szO]; omega)
  have o1 : overL ((none : Option (List Nat)).getD []) 0 (frm 1 ⟨#[120]⟩) = frm 1 ⟨#[120]⟩ := by simp [overL]
  rw [o1] at p1
  obtain ⟨D1, hD1⟩ : ∃ D1, DS.put (DS.fresh 1000) (⟨#[110, 45, 97]⟩ : ByteArray) (frm 1 ⟨#[120]⟩) = D1 := ⟨_, rfl⟩
  rw [hD1] at p1
  obtain ⟨p11, p12, p13, p14⟩ := p1
  have CO : Hid (∀ db W1, Dk w db (DS.fresh 1000) W1 → Calls Tryd.prog 7 #[.pointer (some ⟨db, 0, none⟩), .string ⟨#[110]⟩] W1 (OpenO w db (DS.fresh 1000) nameN ⟨#[]⟩ 0 0)) := Lib.hid fun db W1 h => open_none w W1 db _ h (hT.below h.low) nameN nameN_right rfl rfl
  have C1 : Hid (∀ sl db W2, Dx (fun k => k = sl) w db (DS.fresh 1000) W2 → SlotB W2 sl db ⟨#[110, 45, 97]⟩ ⟨#[110, 45, 98]⟩ ⟨#[]⟩ 0 0 false → Calls Tryd.prog 9 #[.pointer (some ⟨sl, 0, none⟩), .string ⟨#[120]⟩] W2 fun e W3 => e = .returned (.int .i64 0) ∧ Hid (Dx (fun k => k = sl) w db D1 W3 ∧ SlotB W3 sl db ⟨#[110, 45, 97]⟩ ⟨#[110, 45, 98]⟩ ⟨#[120]⟩ 1 1 false)) := Lib.hid fun sl db W2 h hs => by
    refine (put_calls w W2 sl db _ _ _ ⟨#[]⟩ 0 0 (by omega) h hs (hT.below h.low) (by show 0 ≤ 4000000000; omega) (by omega) (by omega) ⟨#[120]⟩ (by omega) (by omega) p11 p12).mono ?_
    rintro e W3 ⟨rfl, h3, h4⟩
    have h3' : Dx (fun k => k = sl) w db (DS.put (DS.fresh 1000) (⟨#[110, 45, 97]⟩ : ByteArray) (frm 1 ⟨#[120]⟩)) W3 := h3
    rw [hD1] at h3'
    exact ⟨rfl, Lib.hid ⟨h3', h4⟩⟩
  have C2 : Hid (∀ sl db W2, Dx (fun k => k = sl) w db D1 W2 → SlotB W2 sl db ⟨#[110, 45, 97]⟩ ⟨#[110, 45, 98]⟩ ⟨#[120]⟩ 1 1 false → Calls Tryd.prog 9 #[.pointer (some ⟨sl, 0, none⟩), .string ⟨#[121]⟩] W2 fun e W3 => e = .returned (.int .i64 0) ∧ Hid (∃ D2, Dx (fun k => k = sl) w db D2 W3 ∧ SlotB W3 sl db ⟨#[110, 45, 97]⟩ ⟨#[110, 45, 98]⟩ ⟨#[121]⟩ 2 0 false ∧ D2.safe ⟨#[110, 45, 97]⟩ = some (frm 1 ⟨#[120]⟩))) := Lib.hid fun sl db W2 h hs => by
    obtain ⟨q1, q2, q3, _⟩ := p13.swap.put (Dx.wf h) (Ne.symm hab) rB (frm 2 ⟨#[121]⟩) (frm_lt _ _ (by omega) (by omega)) (by simp only [szO]; omega)
    refine (put_calls w W2 sl db _ _ _ ⟨#[120]⟩ 1 1 (by omega) h hs (hT.below h.low) (by rw [p14]; show 0 + 1 ≤ 4000000000; omega) (by omega) (by omega) ⟨#[121]⟩ (by omega) (by omega) q1 q2).mono ?_
    rintro e W3 ⟨rfl, h3, h4⟩
    exact ⟨rfl, Lib.hid ⟨_, h3, h4, (q3.safe _).trans q3.nowB⟩⟩
  have hc : ((⟨#[121]⟩ : ByteArray).toList == (⟨#[121]⟩ : ByteArray).toList) = true := by simp
  have CF := Lib.hid (fun W => frame_calls 1 ⟨#[120]⟩ (by omega) (by omega) W)
  clear hT l1 l2 s0 p11 p12 p13 p14 o1 hab rA rB hD1
  go_enter Tryd.func5, Tryd.ntmps5
  go_wp2_with fail
  refine CN.out.mono ?_
  rintro e W1 ⟨db, rfl, h1⟩
  have CO1 := Lib.hid (CO.out db W1 h1)
  clear h1 CO CN
  go_wp2_with fail
  refine CO1.out.mono ?_
  rintro e W2 ⟨sl, rfl, h2, h3⟩
  rw [nameN_A, nameN_B] at h3
  have CP1 := Lib.hid (C1.out sl db W2 h2 h3)
  clear h2 h3 C1 CO1
  go_wp2_with fail
  refine CP1.out.mono ?_
  rintro e W3 ⟨rfl, H3⟩
  have CP2 := Lib.hid (C2.out sl db W3 H3.out.1 H3.out.2)
  clear H3 C2 CP1
  go_wp2_with fail
  refine CP2.out.mono ?_
  rintro e W4 ⟨rfl, H4⟩
  obtain ⟨D2, h5, h6, h7⟩ := H4.out
  have CG := Lib.hid (get_calls W4 sl db 0 _ _ _ 2 false h6)
  have H5 := Lib.hid h5
  have H7 := Lib.hid h7
  clear H4 h5 h6 h7 CP2
  go_wp2_with fail
  refine CG.out.mono ?_
  rintro e W5 ⟨rfl, hB5⟩
  have h8 := H5.out.below hB5
  have CD := h8.durable ⟨#[110, 45, 97]⟩ (by show (⟨#[110, 45, 97]⟩ : ByteArray).size ≤ maxLen; rw [zA]; decide)
  rw [H7.out] at CD
  have CD := Lib.hid CD
  have H8 := Lib.hid h8
  clear hB5 h8 H5 H7 CG
  go_wp2_with fail
  refine CD.out.mono ?_
  rintro e W6 ⟨v6, rfl, hO, hB6⟩
  have hO' : OwnB W6 W5.heap.size 5 v6 (frm 1 ⟨#[120]⟩) := hO
  obtain ⟨A6, c6, rfl⟩ := hO'.bytes.form
  have HB6 := Lib.hid hB6
  have HO6 := Lib.hid hO'.bytes
  have CF6 := Lib.hid (CF.out W6)
  clear hO hO' hB6 CD CF
  go_wp2_with fail
  refine CF6.out.mono ?_
  rintro e W7 ⟨A7, l7, c7, rfl, hI7, hB7⟩
  have CS := same_calls _ _ _ _ W7 (HO6.out.on hB7) hI7
  rw [decide_eq_true rfl] at CS
  have CS := Lib.hid CS
  have HB7 := Lib.hid hB7
  clear hI7 hB7 CF6
  go_wp2_with fail
  refine CS.out.mono ?_
  rintro e W8 ⟨rfl, hW8⟩
  rw [hW8]
  clear hW8
  go_wp2_with fail
  go_ret
  exact ⟨rfl, H8.out.low.trans ((HB6.out.trans (HB7.out.mono HB6.out.size)).mono H8.out.low.size)⟩

end Go.Proofs.YtdikmlnpclklnaaDoor.Slot

/-
  The walk of the law SlotNames: whatever the name, it returns true and nothing that lay has turned.
-/
namespace Go.Proofs.YtdikmlnpclklnaaDoor.Slot
open Go Go.RowKit Go.Lib Go.Proofs.YtdikmlnpclklnaaDoor.Law Go.Proofs.YtdikmlnpclklnaaDoor.Disk

set_option maxRecDepth 100000 in
set_option maxHeartbeats 4000000 in
theorem slotNames_law (s : ByteArray) (hs63 : s.size ≤ 9223372036854775807) (w : World) (hT : Crc.Tab w) :
    Calls Tryd.prog 3 #[.string s] w fun e W => e = .returned (.bool true) ∧ Below w.heap.size w W := by
  have CK := Lib.hid (known_law w hT)
  have HTB : Hid (∀ W, Below w.heap.size w W → Crc.Tab W) := Lib.hid fun W hB => hT.below hB
  have CB : Hid (rightS s = false → ∀ db W, Calls Tryd.prog 7 #[.pointer (some ⟨db, 0, none⟩), .string s] W fun e W' => e = .returned (.tuple #[.pointer none, .int .i64 1]) ∧ Below W.heap.size W W') := Lib.hid fun h db W => open_bad db s hs63 h W
  obtain ⟨N, hN⟩ : ∃ N, s.size = N := ⟨_, rfl⟩
  obtain ⟨okL, hokL⟩ : ∃ t, decide (1 ≤ s.size ∧ s.size ≤ 12) = t := ⟨_, rfl⟩
  have HR : Hid (rightS s = (okL && (bytesS s).all low)) := Lib.hid (by rw [← hokL]; rfl)
  have HBL := Lib.hid (bytesS_length s)
  have HOK := Lib.hid hokL
  have HS63 := Lib.hid hs63
  clear hT hokL hN hs63
  have hs63I : (s.size : Int) ≤ 9223372036854775807 := by have := HS63.out; omega
  have hb3 : (1 ≤ (s.size : Int) ∧ (s.size : Int) ≤ 12 ∧ okL = true) ∨ (¬ 1 ≤ (s.size : Int) ∧ okL = false) ∨ (1 ≤ (s.size : Int) ∧ ¬ (s.size : Int) ≤ 12 ∧ okL = false) := by
    have := HOK.out
    by_cases h1 : 1 ≤ s.size
    · by_cases h2 : s.size ≤ 12
      · left; exact ⟨by omega, by omega, by rw [← this]; exact decide_eq_true ⟨h1, h2⟩⟩
      · right; right; exact ⟨by omega, by omega, by rw [← this]; exact decide_eq_false (by omega)⟩
    · right; left; exact ⟨by omega, by rw [← this]; exact decide_eq_false (by omega)⟩
  rcases hb3 with ⟨hx1, hx2, hok⟩ | ⟨hx1, hok⟩ | ⟨hx1, hx2, hok⟩
  all_goals
    subst hok
    go_enter Tryd.func3, Tryd.ntmps3
    go_wp2_with fail
    refine CK.out.mono ?_
    rintro e w1 ⟨rfl, hB1⟩
    have HB1 := Lib.hid hB1
    clear hB1 CK
    go_wp2_with fail
    go_loopw [3, 4] (fun t i wr => ∃ (k : Nat) (r : Bool), i = .int .i64 k ∧ k ≤ s.size ∧ t = .bool r ∧ Hid (r = (decide (1 ≤ s.size ∧ s.size ≤ 12) && ((bytesS s).take k).all low)) ∧ wr = w1) (fun _ i _ => s.size - (intOf i).toNat)
    case atStart => exact ⟨0, _, rfl, Nat.zero_le _, rfl, Lib.hid (by rw [HOK.out]; simp <;> omega), rfl⟩
    case round =>
      obtain ⟨k, r, rfl, hk, rfl, HA, rfl⟩ := hrel
      by_cases hlt : k < s.size
      · have hltI : (k : Int) < (s.size : Int) := by omega
        have hb : (bytesS s)[k]? = some s[k].toNat := by
          unfold bytesS
          rw [List.getElem?_map, Array.getElem?_toList, Array.getElem?_eq_getElem (show k < s.data.size from hlt)]
          rfl
        have hstep : ∀ t : Bool, low s[k].toNat = t → (r && t) = (decide (1 ≤ s.size ∧ s.size ≤ 12) && ((bytesS s).take (k + 1)).all low) := fun t ht => by
          obtain ⟨hl, he⟩ := List.getElem?_eq_some_iff.1 hb
          rw [List.take_succ_eq_append_getElem hl, he, List.all_append, HA.out, ← ht]
          simp [Bool.and_assoc]
        have HSTEP := Lib.hid hstep
        clear hb hstep
        cases r with
        | false =>
          have HN : Hid (false = (decide (1 ≤ s.size ∧ s.size ≤ 12) && ((bytesS s).take (k + 1)).all low)) := Lib.hid (by have := HSTEP.out _ rfl; rw [Bool.false_and] at this; exact this)
          clear HSTEP HA
          go_wp2_with fail
          go_roundw
          case rel => exact ⟨k + 1, _, by go_num, by omega, rfl, HN, trivial⟩
          case measure => simp [intOf]; omega
        | true =>
          rcases (show s[k].toNat < 97 ∨ (97 ≤ s[k].toNat ∧ s[k].toNat ≤ 122) ∨ 123 ≤ s[k].toNat by omega) with hx | hx | hx
          · have i0 : ¬ 97 ≤ (s[k].toNat : Int) := by omega
            have hlow : low s[k].toNat = false := by unfold low; simp; omega
            have HN : Hid (false = (decide (1 ≤ s.size ∧ s.size ≤ 12) && ((bytesS s).take (k + 1)).all low)) := Lib.hid (by have := HSTEP.out _ hlow; exact this)
            clear HSTEP HA hlow hx
            go_wp2_with fail
            go_roundw
            case rel => exact ⟨k + 1, _, by go_num, by omega, rfl, HN, trivial⟩
            case measure => simp [intOf]; omega
          · have i0 : 97 ≤ (s[k].toNat : Int) := by omega
            have i1 : (s[k].toNat : Int) ≤ 122 := by omega
            have hlow : low s[k].toNat = true := by unfold low; simp; omega
            have HN : Hid (true = (decide (1 ≤ s.size ∧ s.size ≤ 12) && ((bytesS s).take (k + 1)).all low)) := Lib.hid (by have := HSTEP.out _ hlow; exact this)
            clear HSTEP HA hlow hx
            go_wp2_with fail
            go_roundw
            case rel => exact ⟨k + 1, _, by go_num, by omega, rfl, HN, trivial⟩
            case measure => simp [intOf]; omega
          · have i0 : 97 ≤ (s[k].toNat : Int) := by omega
            have i1 : ¬ (s[k].toNat : Int) ≤ 122 := by omega
            have hlow : low s[k].toNat = false := by unfold low; simp; omega
            have HN : Hid (false = (decide (1 ≤ s.size ∧ s.size ≤ 12) && ((bytesS s).take (k + 1)).all low)) := Lib.hid (by have := HSTEP.out _ hlow; exact this)
            clear HSTEP HA hlow hx
            go_wp2_with fail
            go_roundw
            case rel => exact ⟨k + 1, _, by go_num, by omega, rfl, HN, trivial⟩
            case measure => simp [intOf]; omega
      · obtain rfl : k = s.size := by omega
        have hr : rightS s = r := by
          rw [HA.out, List.take_of_length_le (by rw [HBL.out]; exact Nat.le_refl _)]; rfl
        have HRS := Lib.hid hr
        have CN := Lib.hid (new_dk 100 (by decide) w wr HB1.out)
        clear HA hr
        go_wp2_with fail
        refine CN.out.mono ?_
        rintro e w2 ⟨db, rfl, h2⟩
        cases r with
        | true =>
          have CO := Lib.hid (open_none w w2 db _ h2 (HTB.out w2 h2.low) s HRS.out rfl rfl)
          clear h2 CN CB
          go_wp2_with fail
          refine CO.out.mono ?_
          rintro e w3 ⟨sl, rfl, h3, _⟩
          have HB3 := Lib.hid h3.low
          clear h3 CO
          go_wp2_with fail
          refine (open_nil s w3).mono ?_
          rintro e w4 ⟨rfl, hB4⟩
          have HB4 := Lib.hid (HB3.out.trans (hB4.mono HB3.out.size))
          clear hB4 HB3
          go_wp2_with fail
          refine (get_nil w4).mono ?_
          rintro e w5 ⟨rfl, hB5⟩
          have HB5 := Lib.hid (HB4.out.trans (hB5.mono HB4.out.size))
          clear hB5 HB4
          go_wp2_with fail
          refine (put_nil _ w5).mono ?_
          rintro e w6 ⟨rfl, hB6⟩
          have HB6 := Lib.hid (HB5.out.trans (hB6.mono HB5.out.size))
          clear hB6 HB5
          go_wp2_with fail
          go_ret
          exact ⟨rfl, HB6.out⟩
        | false =>
          have CO := Lib.hid (CB.out HRS.out db w2)
          have HB2 := Lib.hid h2.low
          clear h2 CN CB
          go_wp2_with fail
          refine CO.out.mono ?_
          rintro e w3 ⟨rfl, hB3⟩
          have HB3 := Lib.hid (HB2.out.trans (hB3.mono HB2.out.size))
          clear hB3 CO
          go_wp2_with fail
          refine (open_nil s w3).mono ?_
          rintro e w4 ⟨rfl, hB4⟩
          have HB4 := Lib.hid (HB3.out.trans (hB4.mono HB3.out.size))
          clear hB4 HB3
          go_wp2_with fail
          refine (get_nil w4).mono ?_
          rintro e w5 ⟨rfl, hB5⟩
          have HB5 := Lib.hid (HB4.out.trans (hB5.mono HB4.out.size))
          clear hB5 HB4
          go_wp2_with fail
          refine (put_nil _ w5).mono ?_
          rintro e w6 ⟨rfl, hB6⟩
          have HB6 := Lib.hid (HB5.out.trans (hB6.mono HB5.out.size))
          clear hB6 HB5
          go_wp2_with fail
          go_ret
          exact ⟨rfl, HB6.out⟩

end Go.Proofs.YtdikmlnpclklnaaDoor.Slot
