/-
  Put together out of texts of one chain: what they hold stands ahead of each.
-/
import Derived.Test.YtdikmlnpclklnaaGreatDoorGSlotScripts20
import Derived.Test.YtdikmlnpclklnaaGreatDoorWireEncode
import Derived.Test.YtdikmlnpclklnaaGreatDoorGSlotScripts09
import Derived.Deep.RegionWith
/-
  A slot's message and its frame as data; Int, Text; the two items as they are laid.
-/
namespace Go.Proofs.YtdikmlnpclklnaaGreatDoor.Slot
open Go Go.RowKit Go.Lib Go.Proofs.YtdikmlnpclklnaaGreatDoor.Law Go.Proofs.YtdikmlnpclklnaaGreatDoor.Disk

/-- A value's message, its bytes, its frame. -/
def msg (n : Int) (s : ByteArray) : List Wire.Item := [.mk 0 n ⟨#[]⟩ [], .mk 1 0 s []]
def pay (n : Int) (s : ByteArray) : List Nat := Wire.bytesL (msg n s)
def frm (n : Int) (s : ByteArray) : List Nat := Frame.frameN (pay n s)
theorem pay_length (n : Int) (s : ByteArray) (hs : s.size ≤ 60000) : (pay n s).length ≤ 60022 := by
  have h := Wire.bytesL_le (msg n s)
  have h1 : Wire.nodesL (msg n s) = 2 := by simp [msg, Wire.nodesL, Wire.Item.nodes]
  have h2 : Wire.strsL (msg n s) = s.size := by
    simp only [msg, Wire.strsL, Wire.Item.strs]
    have : (⟨#[]⟩ : ByteArray).size = 0 := rfl
    omega
  rw [h1, h2] at h
  show (Wire.bytesL (msg n s)).length ≤ _
  omega
theorem enc_msg (n : Int) (s : ByteArray) (hs : s.size ≤ 60000) : Wire.encN (msg n s) = (pay n s, 0) := by
  have h := pay_length n s hs
  have hc : (Wire.chkL 1 0 (msg n s)).2 = 0 := by
    have e0 : (⟨#[]⟩ : ByteArray) = ByteArray.empty := rfl
    simp [e0, msg, Wire.chkL, Wire.chkI, Wire.Item.form, Wire.Item.kind, Wire.Item.s, Wire.Item.kids, Wire.Item.n]
  unfold Wire.encN
  rw [if_neg (by rw [hc]; simp), if_neg (by show ¬ 65536 < (pay n s).length; omega)]
  rfl
theorem put_pay (n : Int) (s : ByteArray) (hs : s.size ≤ 60000) : Frame.putN (pay n s) = (frm n s, 0) := by
  have h := pay_length n s hs
  unfold Frame.putN
  rw [if_pos (by omega)]
  rfl
theorem frm_length (n : Int) (s : ByteArray) (hs : s.size ≤ 60000) : (frm n s).length ≤ 60034 := by
  have h := pay_length n s hs
  show (Frame.frameN (pay n s)).length ≤ _
  rw [Frame.frameN_length]; omega

set_option maxRecDepth 100000 in
theorem int_calls (n : Int) (w : World) : Calls Tryz.prog 96 #[.int .i64 n] w fun e W => e = .returned (.agg #[.int .i64 0, .int .i64 n, .string ⟨#[]⟩, .slice none 0 0]) ∧ Below w.heap.size w W := by
  go_enter Tryz.func96, Tryz.ntmps96
  go_wp2
  exact bodyPost_ret (v := .agg #[.int .i64 0, .int .i64 n, .string ⟨#[]⟩, .slice none 0 0]) (by simp [results, Tryz.results96, go_sem]) rfl ⟨rfl, (Below.refl _ _).alloc (Nat.le_refl _) _⟩
set_option maxRecDepth 100000 in
theorem text_calls (s : ByteArray) (w : World) : Calls Tryz.prog 97 #[.string s] w fun e W => e = .returned (.agg #[.int .i64 1, .int .i64 0, .string s, .slice none 0 0]) ∧ Below w.heap.size w W := by
  go_enter Tryz.func97, Tryz.ntmps97
  go_wp2
  exact bodyPost_ret (v := .agg #[.int .i64 1, .int .i64 0, .string s, .slice none 0 0]) (by simp [results, Tryz.results97, go_sem]) rfl ⟨rfl, (Below.refl _ _).alloc (Nat.le_refl _) _⟩

/-- The two items as a law or the slot lays them. -/
def laid (W : World) (n : Int) (s : ByteArray) : World := W.alloc (.cells #[.int .i64 0, .int .i64 n, .string ⟨#[]⟩, .slice none 0 0, .int .i64 1, .int .i64 0, .string s, .slice none 0 0] 145)
theorem laid_size (W : World) (n : Int) (s : ByteArray) : (laid W n s).heap.size = W.heap.size + 1 := by unfold laid; simp
theorem laid_below (W : World) (n : Int) (s : ByteArray) : Below W.heap.size W (laid W n s) := (Below.refl _ _).alloc (Nat.le_refl _) _
theorem laid_old (W : World) (n : Int) (s : ByteArray) : Wire.Old (laid W n s).heap.size (laid W n s) (.slice (some ⟨W.heap.size, 0, none⟩) 2 2) (msg n s) := by
  have hx : (laid W n s).heap[W.heap.size]? = some (.cells #[.int .i64 0, .int .i64 n, .string ⟨#[]⟩, .slice none 0 0, .int .i64 1, .int .i64 0, .string s, .slice none 0 0] 145 (0, 0)) := by
    unfold laid; simp only [World.alloc, Array.getElem?_push_size]
  refine .row W.heap.size 0 2 2 (msg n s) (fun _ => .slice none 0 0) rfl (Nat.le_refl _) (fun _ => by rw [laid_size]; omega) (fun j x hj => ?_) (fun j x hj => ?_)
  · match j, hj with
    | 0, hj =>
      obtain rfl : Wire.Item.mk 0 n ⟨#[]⟩ [] = x := by simpa [msg] using hj
      refine ⟨?_, ?_, ?_, ?_⟩ <;> simp [World.cell?, hx, Wire.Item.kind, Wire.Item.s, Wire.Item.n]
    | 1, hj =>
      obtain rfl : Wire.Item.mk 1 0 s [] = x := by simpa [msg] using hj
      refine ⟨?_, ?_, ?_, ?_⟩ <;> simp [World.cell?, hx, Wire.Item.kind, Wire.Item.s, Wire.Item.n]
    | j + 2, hj => simp [msg] at hj
  · match j, hj with
    | 0, hj =>
      obtain rfl : Wire.Item.mk 0 n ⟨#[]⟩ [] = x := by simpa [msg] using hj
      exact .nil none 0 _ (fun _ => rfl) rfl
    | 1, hj =>
      obtain rfl : Wire.Item.mk 1 0 s [] = x := by simpa [msg] using hj
      exact .nil none 0 _ (fun _ => rfl) rfl
    | j + 2, hj => simp [msg] at hj
theorem msg_sized (n : Int) (s : ByteArray) (hn : -9223372036854775808 ≤ n ∧ n ≤ 9223372036854775807) (hs : s.size ≤ 60000) : Wire.sizedL (msg n s) := by
  have e0 : (⟨#[]⟩ : ByteArray).size = 0 := rfl
  simp only [msg, Wire.sizedL, Wire.Item.sized, List.length_nil, and_true]
  omega

end Go.Proofs.YtdikmlnpclklnaaGreatDoor.Slot

/-
  Contract of slot's write where all goes well.
-/
namespace Go.Proofs.YtdikmlnpclklnaaGreatDoor.Slot
open Go Go.RowKit Go.Lib Go.Proofs.YtdikmlnpclklnaaGreatDoor.Law Go.Proofs.YtdikmlnpclklnaaGreatDoor.Disk

/-- What write leaves where all goes well. -/
def Written (w : World) (sl db : Nat) (D : DS) (a b v : ByteArray) (n : Int) (sp : Nat) (bk : Bool) (f : List Nat) (e : Ending) (W : World) : Prop :=
  e = .returned (.int .i64 0) ∧ Dx (fun k => k = sl) w db ((D.write (fileN a b sp) 0 (str f)).sync (fileN a b sp)) W ∧ SlotB W sl db a b v n sp bk

set_option maxRecDepth 100000 in
set_option maxHeartbeats 4000000 in
theorem write_calls (w W : World) (sl db : Nat) (D : DS) (a b v : ByteArray) (n : Int) (sp : Nat) (hsp : sp ≤ 1) (bk : Bool) (hD : Dx (fun k => k = sl) w db D W) (hS : SlotB W sl db a b v n sp bk) (hT : Crc.Tab W) (hmade : D.made ≤ 4000000000)
    (ha : a.size ≤ 14) (hb : b.size ≤ 14) (s : ByteArray) (hs : s.size ≤ 60000) (m : Int) (hm : -9223372036854775808 ≤ m ∧ m ≤ 9223372036854775807)
    (h0 : D.writeN (fileN a b sp) 0 (frm m s).length = 0) (h1 : (D.write (fileN a b sp) 0 (str (frm m s))).syncN (fileN a b sp) = 0) :
    Calls Tryz.prog 65 #[.pointer (some ⟨sl, 0, none⟩), .string s, .int .i64 m] W (Written w sl db D a b v n sp bk (frm m s)) := by
  have hsz := hD.low.size
  have henc := enc_msg m s hs
  have hput := put_pay m s hs
  have hfl := frm_length m s hs
  obtain ⟨P, hP⟩ : ∃ P, pay m s = P := ⟨_, rfl⟩
  obtain ⟨F, hF⟩ : ∃ F, frm m s = F := ⟨_, rfl⟩
  obtain ⟨L, hL⟩ : ∃ L, F.length = L := ⟨_, rfl⟩
  rw [hP] at henc hput
  rw [hF] at hput hfl h0 h1 ⊢
  rw [hL] at hfl h0
  have CE : Hid (∀ W2, Below W.heap.size W W2 → Calls Tryz.prog 95 #[.slice (some ⟨W2.heap.size, 0, none⟩) 2 2] (laid W2 m s) fun e W3 => ∃ A l c, e = .returned (.tuple #[.slice A l c, .int .i64 0]) ∧ Hid (Bytes W3.heap.size W3 (.slice A l c) P ∧ Below W.heap.size W W3)) := Lib.hid fun W2 hB2 => by
    refine (Wire.encode_calls (msg m s) (msg_sized m s hm hs) (by simp [msg]) _ _ (laid_old W2 m s)).mono ?_
    rintro e W3 ⟨v3, rfl, hO, hB3⟩
    rw [henc] at hO ⊢
    have hl := laid_below W2 m s
    obtain ⟨A, c, rfl⟩ := hO.bytes.form
    exact ⟨A, _, c, rfl, Lib.hid ⟨hO.bytes, (hB2.trans (hl.mono hB2.size)).trans (hB3.mono (Nat.le_trans hB2.size hl.size))⟩⟩
  have CP : Hid (∀ W3 A l c, Below W.heap.size W W3 → Bytes W3.heap.size W3 (.slice A l c) P → Calls Tryz.prog 50 #[.slice A l c] W3 fun e W4 => ∃ A4 c4, e = .returned (.tuple #[.slice A4 L c4, .int .i64 0]) ∧ Hid (Bytes W4.heap.size W4 (.slice A4 L c4) F ∧ Below W.heap.size W W4)) := Lib.hid fun W3 A l c hB3 hI => by
    refine (Frame.put_calls _ P W3 (hT.below hB3) hI).mono ?_
    rintro e W4 ⟨v4, rfl, hO, hB4⟩
    rw [hput] at hO ⊢
    obtain ⟨A4, c4, rfl⟩ := hO.bytes.form
    rw [hL] at hO ⊢
    exact ⟨A4, c4, rfl, Lib.hid ⟨hO.bytes, hB3.trans (hB4.mono hB3.size)⟩⟩
  have CW : Hid (∀ W0 A c, Below W.heap.size W W0 → Bytes W0.heap.size W0 (.slice A L c) F → Calls Tryz.prog 10 #[.pointer (some ⟨db, 0, none⟩), .string (fileN a b sp), .int .i64 0, .slice A L c] W0 fun e W5 => e = .returned (.int .i64 0) ∧ Hid (Dx (fun k => k = sl) w db (D.write (fileN a b sp) 0 (str F)) W5 ∧ SlotB W5 sl db a b v n sp bk)) := Lib.hid fun W0 A c hB0 hI => by
    have hnm : (fileN a b sp).size ≤ 14 := by unfold fileN; split <;> assumption
    have h := (hD.below hB0).write (by omega) (fileN a b sp) (by omega) 0 (by decide) (.slice A L c) F (by omega) hI
    rw [hL, h0] at h
    refine h.mono ?_
    rintro e W5 ⟨rfl, h5, h6⟩
    exact ⟨rfl, Lib.hid ⟨h5, (h6.1 sl rfl).trans (hS.below hB0)⟩⟩
  have CY : Hid (∀ W0, Dx (fun k => k = sl) w db (D.write (fileN a b sp) 0 (str F)) W0 → SlotB W0 sl db a b v n sp bk → Calls Tryz.prog 11 #[.pointer (some ⟨db, 0, none⟩), .string (fileN a b sp)] W0 fun e W5 => e = .returned (.int .i64 0) ∧ Hid (Written w sl db D a b v n sp bk F (.returned (.int .i64 0)) W5)) := Lib.hid fun W0 h2 h3 => by
    have hnm : (fileN a b sp).size ≤ 14 := by unfold fileN; split <;> assumption
    have h := h2.sync (fileN a b sp) (by omega)
    rw [h1] at h
    refine h.mono ?_
    rintro e W5 ⟨rfl, h5, h6⟩
    exact ⟨rfl, Lib.hid ⟨rfl, h5, (h6.1 sl rfl).trans h3⟩⟩
  have HSB : Hid (∀ W0, Below W.heap.size W W0 → SlotB W0 sl db a b v n sp bk) := Lib.hid fun W0 hB => hS.below hB
  have HBD : Hid (∀ (W0 W1 : World), Below W.heap.size W W0 → Below W0.heap.size W0 W1 → Below W.heap.size W W1) := Lib.hid fun W0 W1 h h' => h.trans (h'.mono h.size)
  obtain ⟨D1, hD1⟩ : ∃ D1, D.write (fileN a b sp) 0 (str F) = D1 := ⟨_, rfl⟩
  rw [hD1] at CW CY
  clear hD hS hT henc hput hfl hP hF hL h0 h1 hmade hD1 hsz
  obtain rfl | rfl : sp = 0 ∨ sp = 1 := by omega
  all_goals
    unfold fileN at CW CY
    simp only [if_true, Nat.one_ne_zero, if_false] at CW CY
    go_enter Tryz.func65, Tryz.ntmps65
    go_wp2_with fail
    refine (int_calls m _).mono ?_
    rintro e W1 ⟨rfl, hB1⟩
    go_wp2_with fail
    refine (text_calls s _).mono ?_
    rintro e W2 ⟨rfl, hB2⟩
    have HB2 := Lib.hid (HBD.out _ _ hB1 hB2)
    have CE2 := Lib.hid (CE.out W2 HB2.out)
    unfold laid at CE2
    clear hB1 hB2 CE
    go_wp2_with fail
    refine CE2.out.mono ?_
    rintro e W3 ⟨A3, l3, c3, rfl, H3⟩
    have CP3 := Lib.hid (CP.out W3 A3 l3 c3 H3.out.2 H3.out.1)
    clear CE2 CP H3 HB2
    go_wp2_with fail
    refine CP3.out.mono ?_
    rintro e W4 ⟨A4, c4, rfl, H4⟩
    obtain ⟨⟨k0, k1, k2, _, _, k5, _⟩, _⟩ := (HSB.out W4 H4.out.2).cells
    have HBW : Hid (Below W.heap.size W W4.drew) := Lib.hid (HBD.out _ _ H4.out.2 (Below.refl _ _).drew)
    have HIW : Hid (Bytes W4.drew.heap.size W4.drew (.slice A4 L c4) F) := Lib.hid H4.out.1
    have CW4 := Lib.hid (CW.out W4.drew A4 c4 HBW.out HIW.out)
    clear CP3 CW HBW HIW
    go_wp2_with fail
    go_region_with (go_at_call 10; ((with_reducible refine CW4.out.mono ?_); rintro e W5 ⟨rfl, H5⟩))
    all_goals
      obtain ⟨⟨j0, j1, j2, _, _, j5, _⟩, _⟩ := H5.out.2.cells
      have CY5 := Lib.hid (CY.out W5.drew (H5.out.1.below (Below.refl _ _).drew) H5.out.2)
      clear k0 k1 k2 k5 CW4
      go_wp2_with fail
      go_region_with (go_at_call 11; ((with_reducible refine CY5.out.mono ?_); rintro e W6 ⟨rfl, H6⟩))
      all_goals
        go_wp2_with fail
        go_ret
        exact H6.out

end Go.Proofs.YtdikmlnpclklnaaGreatDoor.Slot

/-
  Contract of slot's Put where all goes well, and on no slot.
-/
namespace Go.Proofs.YtdikmlnpclklnaaGreatDoor.Slot
open Go Go.RowKit Go.Lib Go.Proofs.YtdikmlnpclklnaaGreatDoor.Law Go.Proofs.YtdikmlnpclklnaaGreatDoor.Disk

set_option maxRecDepth 100000 in
set_option maxHeartbeats 2000000 in
theorem put_nil (s : ByteArray) (w : World) : Calls Tryz.prog 30 #[.pointer none, .string s] w fun e W => e = .returned (.int .i64 9) ∧ Below w.heap.size w W := by
  go_enter Tryz.func30, Tryz.ntmps30
  go_wp2_with fail
  go_ret
  exact ⟨rfl, Below.refl _ _⟩

/-- Only the slot's block has turned: the disk stands. -/
theorem Dx.only {w W W' : World} {sl db : Nat} {D : DS} (h : Dx (fun k => k = sl) w db D W) (hO : Only sl W W') : Dx (fun k => k = sl) w db D W' :=
  h.turn hO.size (fun k hk hf => hO.same k hk hf) hO.os hO.tape hO.output

/-- The disk behind a Put. -/
def DS.put (D : DS) (nm : ByteArray) (f : List Nat) : DS := (D.write nm 0 (str f)).sync nm
/-- What Put leaves where all goes well. -/
def PutO (w : World) (sl db : Nat) (D : DS) (a b s : ByteArray) (m : Int) (sp : Nat) (e : Ending) (W : World) : Prop :=
  e = .returned (.int .i64 0) ∧ Dx (fun k => k = sl) w db (DS.put D (fileN a b sp) (frm m s)) W ∧ SlotB W sl db a b s m (1 - sp) false

set_option maxRecDepth 100000 in
set_option maxHeartbeats 4000000 in
theorem put_calls (w W : World) (sl db : Nat) (D : DS) (a b v : ByteArray) (n : Int) (sp : Nat) (hsp : sp ≤ 1) (hD : Dx (fun k => k = sl) w db D W) (hS : SlotB W sl db a b v n sp false) (hT : Crc.Tab W) (hmade : D.made ≤ 4000000000)
    (ha : a.size ≤ 14) (hb : b.size ≤ 14) (s : ByteArray) (hs : s.size ≤ 60000) (hn : 0 ≤ n ∧ n < 9223372036854775807)
    (h0 : D.writeN (fileN a b sp) 0 (frm (n + 1) s).length = 0) (h1 : (D.write (fileN a b sp) 0 (str (frm (n + 1) s))).syncN (fileN a b sp) = 0) :
    Calls Tryz.prog 30 #[.pointer (some ⟨sl, 0, none⟩), .string s] W (PutO w sl db D a b s (n + 1) sp) := by
  have CW := Lib.hid (write_calls w W sl db D a b v n sp hsp false hD hS hT hmade ha hb s hs (n + 1) (by omega) h0 h1)
  obtain ⟨⟨_, _, _, _, k4, _, k6⟩, _⟩ := hS.cells
  have hsI : (s.size : Int) ≤ 60000 := by omega
  obtain ⟨hn0, hn1⟩ := hn
  have hnI : (n == 9223372036854775807) = false := by rw [beq_eq_false_iff_ne]; omega
  have hwrap : IntKind.i64.wrap (n + 1) = n + 1 := by unfold IntKind.wrap; simp [IntKind.signed, IntKind.bits]; omega
  have HSP := Lib.hid hsp
  clear hD hS hT h0 h1 hmade ha hb hsp
  go_enter Tryz.func30, Tryz.ntmps30
  go_wp2_with fail
  refine CW.out.mono ?_
  rintro e W1 ⟨rfl, h1, h2⟩
  obtain ⟨⟨_, _, _, _, j4, j5, _⟩, _⟩ := h2.cells
  have CC : Hid (∀ W0, Below W1.heap.size W1 W0 → Calls Tryz.prog 37 #[.string s] W0 fun e W' => e = .returned (.string s) ∧ Hid (Below W1.heap.size W1 W') ∧ W'.cell? ⟨sl, 4, none⟩ = some (.int .i64 n) ∧ W'.cell? ⟨sl, 5, none⟩ = some (.int .i64 (sp : Nat))) := Lib.hid fun W0 hB0 => by
    refine (cloneS_calls s W0 (by omega)).mono ?_
    rintro e W' ⟨rfl, hB⟩
    have hB' := hB0.trans (hB.mono hB0.size)
    obtain ⟨⟨_, _, _, _, i4, i5, _⟩, _⟩ := (h2.below hB').cells
    exact ⟨rfl, Lib.hid hB', i4, i5⟩
  have CT : Hid (∀ W0, Below W1.heap.size W1 W0 → Calls Tryz.prog 66 #[.pointer (some ⟨sl, 0, none⟩), .string s, .int .i64 (n + 1), .int .i64 (sp : Nat)] W0 fun e W' => e = .returned (.tuple #[]) ∧ Hid (PutO w sl db D a b s (n + 1) sp (.returned (.int .i64 0)) W')) := Lib.hid fun W0 hB0 => by
    refine (take_calls W0 sl db sp a b v n false (h2.below hB0) s (n + 1) sp HSP.out).mono ?_
    rintro e W' ⟨rfl, h3, h4⟩
    exact ⟨rfl, Lib.hid ⟨rfl, Dx.only (h1.below hB0) h4, h3⟩⟩
  have HBD : Hid (Below W1.heap.size W1 W1.drew) := Lib.hid (Below.refl _ _).drew
  clear h1 h2 k4 k6 CW
  go_wp2_with fail
  go_region_with (first
    | (go_at_call 37; ((with_reducible refine (CC.out _ HBD.out).mono ?_); rintro e W2 ⟨rfl, HB2, i4, i5⟩))
    | (go_at_call 66; ((with_reducible refine (CT.out _ HB2.out).mono ?_); rintro e W3 ⟨rfl, HO⟩)))
  all_goals
    go_wp2_with fail
    go_ret
    exact HO.out

end Go.Proofs.YtdikmlnpclklnaaGreatDoor.Slot

/-
  A slot's two files as data: what a Put and a crash make of them.
-/
namespace Go.Proofs.YtdikmlnpclklnaaGreatDoor.Slot
open Go Go.RowKit Go.Lib Go.Proofs.YtdikmlnpclklnaaGreatDoor.Law Go.Proofs.YtdikmlnpclklnaaGreatDoor.Disk

/-- A disk that has the slot's files alone, all durable. -/
structure SD (D : DS) (room : Nat) (a b : ByteArray) (ca cb : Option (List Nat)) : Prop where
  fails : D.fails = false
  room : D.room = room
  chs : D.chs = []
  nowA : D.now a = ca
  nowB : D.now b = cb
  safe : ∀ x, D.safe x = D.now x
  only : ∀ x, x ≠ a → x ≠ b → D.now x = none

theorem SD.fresh (room : Nat) (a b : ByteArray) : SD (DS.fresh room) room a b none none := ⟨rfl, rfl, rfl, rfl, rfl, fun _ => rfl, fun _ _ _ => rfl⟩
theorem SD.swap {D : DS} {room : Nat} {a b : ByteArray} {ca cb : Option (List Nat)} (h : SD D room a b ca cb) : SD D room b a cb ca := ⟨h.fails, h.room, h.chs, h.nowB, h.nowA, h.safe, fun x h1 h2 => h.only x h2 h1⟩

/-- Two files hold no more than both. -/
theorem total_two (f : ByteArray → Option (List Nat)) (a b : ByteArray) (ho : ∀ x, x ≠ a → x ≠ b → f x = none) : ∀ names : List ByteArray, names.Nodup → total names f ≤ (if a ∈ names then szO (f a) else 0) + (if b ∈ names then szO (f b) else 0)
  | [], _ => Nat.zero_le _
  | x :: l, hn => by
    rw [List.nodup_cons] at hn
    have ih := total_two f a b ho l hn.2
    have e : total (x :: l) f = szO (f x) + total l f := by unfold total; rw [List.map_cons, List.sum_cons]
    rw [e]
    by_cases ha : x = a
    · subst ha
      rw [if_neg hn.1] at ih
      rw [if_pos (List.mem_cons_self)]
      by_cases hb : b ∈ l
      · rw [if_pos hb] at ih
        rw [if_pos (List.mem_cons_of_mem _ hb)]; omega
      · rw [if_neg hb] at ih; omega
    · by_cases hb : x = b
      · subst hb
        rw [if_neg hn.1] at ih
        rw [if_pos (show x ∈ x :: l from List.mem_cons_self)]
        by_cases ha2 : a ∈ l
        · rw [if_pos ha2] at ih
          rw [if_pos (List.mem_cons_of_mem _ ha2)]; omega
        · rw [if_neg ha2] at ih; omega
      · rw [ho x ha hb]
        have h0 : szO none = 0 := rfl
        have h1 : (if a ∈ l then szO (f a) else 0) ≤ (if a ∈ x :: l then szO (f a) else 0) := by
          by_cases h : a ∈ l
          · rw [if_pos h, if_pos (List.mem_cons_of_mem _ h)]; exact Nat.le_refl _
          · rw [if_neg h]; exact Nat.zero_le _
        have h2 : (if b ∈ l then szO (f b) else 0) ≤ (if b ∈ x :: l then szO (f b) else 0) := by
          by_cases h : b ∈ l
          · rw [if_pos h, if_pos (List.mem_cons_of_mem _ h)]; exact Nat.le_refl _
          · rw [if_neg h]; exact Nat.zero_le _
        omega
theorem SD.used {D : DS} {room : Nat} {a b : ByteArray} {ca cb : Option (List Nat)} (h : SD D room a b ca cb) (hw : WF D) : D.used ≤ szO ca + szO cb := by
  rw [hw.used]
  have := total_two D.now a b h.only D.names hw.nodup
  rw [h.nowA, h.nowB] at this
  have h1 : (if a ∈ D.names then szO ca else 0) ≤ szO ca := by split <;> omega
  have h2 : (if b ∈ D.names then szO cb else 0) ≤ szO cb := by split <;> omega
  omega

theorem refN_good {s : ByteArray} (h : rightB s = true) : refN false s 0 = 0 := by
  unfold refN
  simp [h]

/-- A Put into the first file. -/
theorem SD.put {D : DS} {room : Nat} {a b : ByteArray} {ca cb : Option (List Nat)} (h : SD D room a b ca cb) (hw : WF D) (hab : a ≠ b) (ha : rightB a = true) (f : List Nat) (hf : ∀ x ∈ f, x < 256) (hroom : szO ca + szO cb + f.length ≤ room) :
    D.writeN a 0 f.length = 0 ∧ (D.write a 0 (str f)).syncN a = 0 ∧ SD (DS.put D a f) room a b (some (overL (ca.getD []) 0 f)) cb ∧ (DS.put D a f).made = D.made + 1 := by
  have hu := h.used hw
  have h0 : D.writeN a 0 f.length = 0 := by
    unfold DS.writeN
    rw [h.fails, refN_good ha, h.nowA, h.room]
    rw [if_neg (by simp), if_neg (by omega), if_neg (by simp only [Int.toNat_zero]; omega)]
  have e1 : D.write a 0 (str f) = D.wrote a 0 (str f) := by
    unfold DS.write
    rw [str_size, if_pos h0]; rfl
  have hin : a ∈ (D.wrote a 0 (str f)).names := by
    show a ∈ (if a ∈ D.names then D.names else D.names ++ [a])
    split
    · assumption
    · simp
  have hs : (D.wrote a 0 (str f)).syncN a = 0 := by
    unfold DS.syncN
    have : (D.wrote a 0 (str f)).fails = false := h.fails
    rw [this, refN_good ha, if_neg (by simp), if_pos hin]
  have e2 : DS.put D a f = (D.wrote a 0 (str f)).syncD a := by
    unfold DS.put
    rw [e1]
    unfold DS.sync
    rw [if_pos hs]
  have hnow : (D.wrote a 0 (str f)).now a = some (overL (ca.getD []) 0 f) := by
    show upd D.now a _ a = _
    rw [upd_same, h.nowA, bytesS_str hf]
  refine ⟨h0, by rw [e1]; exact hs, ?_, by rw [e2]; rfl⟩
  rw [e2]
  refine ⟨h.fails, h.room, ?_, hnow, ?_, fun x => ?_, fun x h1 h2 => ?_⟩
  · show others a (D.chs ++ [(a, _)]) = []
    rw [h.chs]
    simp [others]
  · show upd D.now a _ b = cb
    rw [upd_other _ _ (Ne.symm hab), h.nowB]
  · show upd D.safe a ((D.wrote a 0 (str f)).now a) x = upd D.now a _ x
    by_cases hx : x = a
    · subst hx
      rw [upd_same]
      rfl
    · rw [upd_other _ _ hx, upd_other _ _ hx, h.safe]
  · show upd D.now a _ x = none
    rw [upd_other _ _ h1]
    exact h.only x h1 h2

theorem SD.crash {D : DS} {room : Nat} {a b : ByteArray} {ca cb : Option (List Nat)} (h : SD D room a b ca cb) (picks : List Int) : SD (D.crash picks) room a b ca cb ∧ (D.crash picks).made = D.made := by
  have e : ∀ x, D.crashSafe picks x = D.now x := fun x => by
    unfold DS.crashSafe
    rw [h.chs]
    exact h.safe x
  exact ⟨⟨rfl, h.room, rfl, (e a).trans h.nowA, (e b).trans h.nowB, fun _ => rfl, fun x h1 h2 => (e x).trans (h.only x h1 h2)⟩, rfl⟩

end Go.Proofs.YtdikmlnpclklnaaGreatDoor.Slot
