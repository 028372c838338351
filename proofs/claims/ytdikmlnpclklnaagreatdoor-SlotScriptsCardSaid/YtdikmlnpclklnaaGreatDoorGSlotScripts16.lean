/-
  Put together out of texts of one chain: what they hold stands ahead of each.
-/
import Derived.Test.YtdikmlnpclklnaaGreatDoorGSlotScripts21
import Derived.Test.YtdikmlnpclklnaaGreatDoorGSlotScripts10
import Derived.Test.YtdikmlnpclklnaaGreatDoorGSlotScripts15
import Derived.Test.YtdikmlnpclklnaaGreatDoorGSlotScripts22
import Derived.Test.YtdikmlnpclklnaaGreatDoorGSlotScripts11
import Derived.Deep.QuietTactic
import Derived.BigQuiet
/-
  Contract of slot's read on a file that begins with a value's frame.
-/
namespace Go.Proofs.YtdikmlnpclklnaaGreatDoor.Slot
open Go Go.RowKit Go.Lib Go.Proofs.YtdikmlnpclklnaaGreatDoor.Law Go.Proofs.YtdikmlnpclklnaaGreatDoor.Disk

theorem next_frm (m : Int) (s : ByteArray) (hs : s.size ≤ 60000) (rest : List Nat) : Frame.nextN (frm m s ++ rest) 0 = (pay m s, 12 + (pay m s).length, 0) := by
  have h := pay_length m s hs
  unfold Frame.nextN
  rw [List.drop_zero]
  have := Frame.readN_frame (pay m s) rest (by omega) 0
  rw [Nat.zero_add] at this
  exact this
theorem dec_pay (m : Int) (s : ByteArray) (hm : -9223372036854775808 ≤ m ∧ m ≤ 9223372036854775807) (hs : s.size ≤ 60000) : Wire.decR (pay m s) = (msg m s, 0) := by
  have he := enc_msg m s hs
  have h := Wire.dec_enc (msg_sized m s hm hs) (by rw [he])
  rw [he] at h
  unfold Wire.decR
  rw [h]
  rfl

/-- The two items that come back. -/
def Two2 (W : World) (m : Int) (s : ByteArray) (v : Value) : Prop :=
  ∃ g off cap, v = .slice (some ⟨g, off, none⟩) 2 cap ∧ 2 ≤ cap ∧ g < W.heap.size ∧ W.cell? ⟨g, off, none⟩ = some (.int .i64 0) ∧ W.cell? ⟨g, off + 1, none⟩ = some (.int .i64 m) ∧ W.cell? ⟨g, off + 4, none⟩ = some (.int .i64 1) ∧ W.cell? ⟨g, off + 6, none⟩ = some (.string s)
theorem two2_of {lo : Nat} {W : World} {m : Int} {s : ByteArray} {u : Value} (h : Wire.Items (fun b => lo ≤ b ∧ b < W.heap.size) W u (msg m s)) : Two2 W m s u := by
  obtain ⟨A, cap, rfl, hcap⟩ := h.form
  have h2 : (msg m s).length = 2 := rfl
  rw [h2] at h hcap ⊢
  obtain ⟨b, off, rfl, hb, hc⟩ := h.at (by omega)
  obtain ⟨u0, ⟨c00, c01, _, _⟩, _⟩ := hc 0 _ rfl
  obtain ⟨u1, ⟨c10, _, c12, _⟩, _⟩ := hc 1 _ rfl
  refine ⟨b, off, cap, rfl, hcap, hb.2, ?_, ?_, ?_, ?_⟩
  · simpa [Wire.Item.kind, Wire.Item.n, Wire.Item.s] using c00
  · simpa [Wire.Item.kind, Wire.Item.n, Wire.Item.s] using c01
  · simpa [Wire.Item.kind, Wire.Item.n, Wire.Item.s] using c10
  · simpa [Wire.Item.kind, Wire.Item.n, Wire.Item.s] using c12

set_option maxRecDepth 100000 in
set_option maxHeartbeats 4000000 in
theorem read_some (w W : World) (sl db : Nat) (D : DS) (a b v : ByteArray) (n : Int) (sp : Nat) (bk : Bool) (hD : Dx (fun k => k = sl) w db D W) (hS : SlotB W sl db a b v n sp bk) (hT : Crc.Tab W) (ha : a.size ≤ 14) (hb : b.size ≤ 14) (f : Nat) (hf : f ≤ 1)
    (m : Int) (hm : -9223372036854775808 ≤ m ∧ m ≤ 9223372036854775807) (s : ByteArray) (hs : s.size ≤ 60000) (rest : List Nat) (h0 : D.now (fileN a b f) = some (frm m s ++ rest)) :
    Calls Tryz.prog 94 #[.pointer (some ⟨sl, 0, none⟩), .int .i64 (f : Nat)] W fun e W' => ∃ u, e = .returned u ∧ Two2 W' m s u ∧ Below W.heap.size W W' := by
  have hlen : (frm m s ++ rest).length ≤ 1073741824 := by
    obtain ⟨O, _, _, _, hw, _⟩ := id hD
    exact hw.nowSz _ _ h0
  have hpl := pay_length m s hs
  obtain ⟨L, hL⟩ : ∃ L, (frm m s ++ rest).length = L := ⟨_, rfl⟩
  have CR : Hid (∀ W0, Below W.heap.size W W0 → Calls Tryz.prog 12 #[.pointer (some ⟨db, 0, none⟩), .string (fileN a b f)] W0 fun e W1 => ∃ A c, e = .returned (.tuple #[.slice A L c, .bool true]) ∧ Hid (Bytes W1.heap.size W1 (.slice A L c) (frm m s ++ rest) ∧ Below W.heap.size W W1)) := Lib.hid fun W0 hB0 => by
    have hnm : (fileN a b f).size ≤ 14 := by unfold fileN; split <;> assumption
    have h := (hD.below hB0).read (fileN a b f) (by show (fileN a b f).size ≤ maxLen; simp only [maxLen]; omega)
    rw [h0] at h
    refine h.mono ?_
    rintro e W1 ⟨v1, rfl, hO, hB1⟩
    have hbt : Bytes W1.heap.size W1 v1 (frm m s ++ rest) := hO.bytes
    obtain ⟨A, c, rfl⟩ := hbt.form
    rw [hL] at hbt ⊢
    exact ⟨A, c, rfl, Lib.hid ⟨hbt, hB0.trans (hB1.mono hB0.size)⟩⟩
  have CN : Hid (∀ W1 A c, Bytes W1.heap.size W1 (.slice A L c) (frm m s ++ rest) → Below W.heap.size W W1 → Calls Tryz.prog 104 #[.slice A L c, .int .i64 0] W1 fun e W2 => ∃ A2 l2 c2 z, e = .returned (.tuple #[.slice A2 l2 c2, .int .i64 z, .int .i64 0]) ∧ Hid (Bytes W2.heap.size W2 (.slice A2 l2 c2) (pay m s) ∧ Below W.heap.size W W2)) := Lib.hid fun W1 A c hI hB => by
    refine (Frame.next_at _ (frm m s ++ rest) (by omega) 0 (Nat.zero_le _) W1 (hT.below hB) hI).mono ?_
    rintro e W2 ⟨v2, rfl, hO, hB2⟩
    rw [next_frm m s hs] at hO ⊢
    have hb2 : Bytes W2.heap.size W2 v2 (pay m s) := hO.bytes
    obtain ⟨A2, c2, rfl⟩ := hb2.form
    exact ⟨A2, _, c2, _, rfl, Lib.hid ⟨hb2, hB.trans (hB2.mono hB.size)⟩⟩
  have CD : Hid (∀ W2 A2 l2 c2, Bytes W2.heap.size W2 (.slice A2 l2 c2) (pay m s) → Below W.heap.size W W2 → Calls Tryz.prog 117 #[.slice A2 l2 c2] W2 fun e W3 => ∃ g off cap, e = .returned (.tuple #[.slice (some ⟨g, off, none⟩) 2 cap, .int .i64 0]) ∧ Hid (Two2 W3 m s (.slice (some ⟨g, off, none⟩) 2 cap) ∧ Below W.heap.size W W3)) := Lib.hid fun W2 A2 l2 c2 hI hB => by
    refine (Wire.decode_calls (pay m s) (by omega) _ W2 hI).mono ?_
    rintro e W3 ⟨u, rfl, hB3, hit⟩
    rw [dec_pay m s hm hs] at hit ⊢
    have h2 := two2_of hit
    obtain ⟨g, off, cap, rfl, _⟩ := id h2
    exact ⟨g, off, cap, rfl, Lib.hid ⟨h2, hB.trans (hB3.mono hB.size)⟩⟩
  obtain ⟨⟨k0, k1, k2, _⟩, _⟩ := hS.cells
  have HBD : Hid (Below W.heap.size W W.drew) := Lib.hid (Below.refl _ _).drew
  clear hD hS hT h0 hlen hpl hL
  obtain rfl | rfl : f = 0 ∨ f = 1 := by omega
  all_goals
    unfold fileN at CR
    simp only [if_true, Nat.one_ne_zero, if_false] at CR
    go_enter Tryz.func94, Tryz.ntmps94
    go_wp2_with fail
    go_region_with (go_at_call 12; ((with_reducible refine (CR.out _ HBD.out).mono ?_); rintro e W1 ⟨A1, c1, rfl, H1⟩))
    all_goals
      have CN1 := Lib.hid (CN.out W1 A1 c1 H1.out.1 H1.out.2)
      clear CN CR H1
      go_wp2_with fail
      refine CN1.out.mono ?_
      rintro e W2 ⟨A2, l2, c2, z, rfl, H2⟩
      have CD2 := Lib.hid (CD.out W2 A2 l2 c2 H2.out.1 H2.out.2)
      clear CD CN1 H2
      go_wp2_with fail
      refine CD2.out.mono ?_
      rintro e W3 ⟨g, off, cap, rfl, H3⟩
      go_wp2_with fail
      go_ret
      exact ⟨_, rfl, H3.out.1, H3.out.2⟩

end Go.Proofs.YtdikmlnpclklnaaGreatDoor.Slot

/-
  Contracts of slot's look and Open on a disk that has files of the slot.
-/
namespace Go.Proofs.YtdikmlnpclklnaaGreatDoor.Slot
open Go Go.RowKit Go.Lib Go.Proofs.YtdikmlnpclklnaaGreatDoor.Law Go.Proofs.YtdikmlnpclklnaaGreatDoor.Disk

/-- A file holds version m of a value, or isn't there. -/
def Has (D : DS) (nm : ByteArray) (m : Nat) (s : ByteArray) : Prop :=
  (m = 0 ∧ D.now nm = none) ∨ (0 < m ∧ m ≤ 9223372036854775807 ∧ s.size ≤ 60000 ∧ ∃ rest, D.now nm = some (frm (m : Nat) s ++ rest))
/-- What looking at a file makes of value, version and spare. -/
def seen (st : ByteArray × Nat × Nat) (f m : Nat) (s : ByteArray) : ByteArray × Nat × Nat := if st.2.1 < m then (s, m, 1 - f) else st

set_option maxRecDepth 100000 in
set_option maxHeartbeats 8000000 in
theorem look_calls (w W : World) (sl db : Nat) (D : DS) (a b : ByteArray) (st : ByteArray × Nat × Nat) (bk : Bool) (hD : Dx (fun k => k = sl) w db D W) (hS : SlotB W sl db a b st.1 (st.2.1 : Nat) st.2.2 bk) (hT : Crc.Tab w) (ha : a.size ≤ 14) (hb : b.size ≤ 14)
    (ma mb : Nat) (sa sb : ByteArray) (h0 : Has D a ma sa) (h1 : Has D b mb sb) :
    Calls Tryz.prog 64 #[.pointer (some ⟨sl, 0, none⟩)] W fun e W' => e = .returned (.tuple #[]) ∧ Dx (fun k => k = sl) w db D W' ∧ SlotB W' sl db a b (seen (seen st 0 ma sa) 1 mb sb).1 ((seen (seen st 0 ma sa) 1 mb sb).2.1 : Nat) (seen (seen st 0 ma sa) 1 mb sb).2.2 bk := by
  obtain ⟨stf, hstf⟩ : ∃ f : Nat → ByteArray × Nat × Nat, f = fun k => if k = 0 then st else if k = 1 then seen st 0 ma sa else seen (seen st 0 ma sa) 1 mb sb := ⟨_, rfl⟩
  have HALL : Hid (∀ (k : Nat), k < 2 → ∃ (m : Nat) (s : ByteArray), Has D (fileN a b k) m s ∧ stf (k + 1) = seen (stf k) k m s) := Lib.hid fun k hk => by
    obtain rfl | rfl : k = 0 ∨ k = 1 := by omega
    · exact ⟨ma, sa, h0, by rw [hstf]; rfl⟩
    · exact ⟨mb, sb, h1, by rw [hstf]; rfl⟩
  have HST0 : Hid (stf 0 = st) := Lib.hid (by rw [hstf]; rfl)
  have HST2 : Hid (stf 2 = seen (seen st 0 ma sa) 1 mb sb) := Lib.hid (by rw [hstf]; rfl)
  have HINV : Hid (∃ (D' : DS), D' = D ∧ Dx (fun k => k = sl) w db D W ∧ SlotB W sl db a b (stf 0).1 ((stf 0).2.1 : Nat) (stf 0).2.2 bk) := Lib.hid ⟨D, rfl, hD, by rw [HST0.out]; exact hS⟩
  have HT : Hid (∀ W1, Dx (fun k => k = sl) w db D W1 → Crc.Tab W1) := Lib.hid fun W1 h => hT.below h.low
  have HSZ := Lib.hid (And.intro ha hb)
  clear hD hS hT h0 h1 hstf ha hb
  have i0 : ∀ w, (Instr.index 148 (.agg #[.int .i64 0, .int .i64 1]) (.int .i64 0)).run Tryz.prog w = .ok (.int .i64 0) w := fun _ => by kernel_rfl
  have i1 : ∀ w, (Instr.index 148 (.agg #[.int .i64 0, .int .i64 1]) (.int .i64 1)).run Tryz.prog w = .ok (.int .i64 1) w := fun _ => by kernel_rfl
  go_enter Tryz.func64, Tryz.ntmps64
  go_wp2_with fail
  go_step3
  go_wp2_with fail
  go_step3
  go_wp2_with fail
  go_loopg [7] 2 (fun g i wr => ∃ k : Nat, k + g = 2 ∧ i = .int .i64 k ∧ Hid (∃ (D' : DS), D' = D ∧ Dx (fun k => k = sl) w db D wr ∧ SlotB wr sl db a b (stf k).1 ((stf k).2.1 : Nat) (stf k).2.2 bk))
  case atStart => exact ⟨0, rfl, rfl, HINV⟩
  case round =>
    obtain ⟨k, hkg, rfl, HI⟩ := hrel
    cases gk with
    | zero =>
      obtain rfl : k = 2 := by omega
      have HF : Hid (Dx (fun k => k = sl) w db D wr ∧ SlotB wr sl db a b (seen (seen st 0 ma sa) 1 mb sb).1 ((seen (seen st 0 ma sa) 1 mb sb).2.1 : Nat) (seen (seen st 0 ma sa) 1 mb sb).2.2 bk) := Lib.hid (by
        obtain ⟨_, _, e1, e2⟩ := HI.out
        rw [HST2.out] at e2
        exact ⟨e1, e2⟩)
      clear HI HINV
      go_wp2_with fail
      try rw [Exit.noGoto_normal]
      go_end0
      exact ⟨rfl, HF.out⟩
    | succ g =>
      have hk2 : k < 2 := by omega
      have hkI : (k : Int) < 2 := by omega
      obtain ⟨m, s, hhas, hst⟩ := HALL.out k hk2
      obtain ⟨_, _, hD, hS⟩ := HI.out
      rcases hhas with ⟨rfl, hnone⟩ | ⟨hm0, hm1, hs, rest, hsome⟩
      · have CR := Lib.hid (read_none w wr sl db D a b _ _ _ bk hD hS (HT.out wr hD) HSZ.out.1 HSZ.out.2 k (by omega) hnone)
        have hst2 : stf (k + 1) = stf k := by rw [hst]; unfold seen; rw [if_neg (by omega)]
        have HKEEP : Hid (∀ W1, Below wr.heap.size wr W1 → ∃ (D' : DS), D' = D ∧ Dx (fun k => k = sl) w db D W1 ∧ SlotB W1 sl db a b (stf (k + 1)).1 ((stf (k + 1)).2.1 : Nat) (stf (k + 1)).2.2 bk) := Lib.hid fun W1 hB => ⟨D, rfl, hD.below hB, by rw [hst2]; exact hS.below hB⟩
        clear hD hS hst hst2 hnone HI HINV
        go_wp2_with fail
        refine CR.out.mono ?_
        rintro e W1 ⟨rfl, hB1⟩
        have HN := Lib.hid (HKEEP.out W1 hB1)
        clear hB1 CR HKEEP
        go_wp2_with fail
        go_roundg g
        case measure => omega
        case rel => exact ⟨k + 1, by omega, by first | rfl | simp | go_num, HN⟩
      · have CR := Lib.hid (read_some w wr sl db D a b _ _ _ bk hD hS (HT.out wr hD) HSZ.out.1 HSZ.out.2 k (by omega) (m : Nat) (by omega) s hs rest hsome)
        obtain ⟨⟨v0, n0, sp0⟩, hst0⟩ : ∃ t, stf k = t := ⟨_, rfl⟩
        rw [hst0] at hS hst
        have hS : SlotB wr sl db a b v0 (n0 : Nat) sp0 bk := hS
        have HSK : Hid (∀ W1, Below wr.heap.size wr W1 → Dx (fun k => k = sl) w db D W1 ∧ SlotB W1 sl db a b v0 (n0 : Nat) sp0 bk) := Lib.hid fun W1 hB => ⟨hD.below hB, hS.below hB⟩
        have HST := Lib.hid hst
        clear hD hS hst hst0 hsome HI HINV
        go_wp2_with fail
        refine CR.out.mono ?_
        rintro e W1 ⟨u, rfl, ⟨gb, off, cap, rfl, hcap, hgb, q0, q1, q4, q6⟩, hB1⟩
        obtain ⟨hD1, hS1⟩ := HSK.out W1 hB1
        obtain ⟨⟨_, _, _, _, j4, _, _⟩, _⟩ := hS1.cells
        have HD1 := Lib.hid hD1
        have HS1 := Lib.hid hS1
        have hcapI : (2 : Int) ≤ (cap : Int) := by omega
        clear hB1 hD1 hS1 CR HSK
        go_wp2_with fail
        go_loopg [17] 2 (fun g2 j wy => ∃ q : Nat, q + g2 = 2 ∧ ((q = 0 ∧ j = .int .i64 0) ∨ (q = 1 ∧ j = .int .i64 1) ∨ (q = 2 ∧ j = .int .i64 2)) ∧ wy = W1)
        case atStart => exact ⟨0, rfl, .inl ⟨rfl, rfl⟩, rfl⟩
        case round =>
          obtain ⟨q, hqg, hj, rfl⟩ := hrel
          cases gk with
          | zero =>
            obtain rfl : q = 2 := by omega
            rcases hj with ⟨h, rfl⟩ | ⟨h, rfl⟩ | ⟨_, rfl⟩
            · omega
            · omega
            by_cases hle : m ≤ n0
            · have hleI : (m : Int) ≤ (n0 : Int) := by omega
              have HN : Hid (∃ (D' : DS), D' = D ∧ Dx (fun k => k = sl) w db D wr ∧ SlotB wr sl db a b (stf (k + 1)).1 ((stf (k + 1)).2.1 : Nat) (stf (k + 1)).2.2 bk) := Lib.hid ⟨D, rfl, HD1.out, by
                rw [HST.out]; unfold seen; rw [if_neg (by show ¬ n0 < m; omega)]; exact HS1.out⟩
              clear HD1 HS1 HST
              go_wp2_with fail
              go_roundg g
              case measure => omega
              case rel => exact ⟨k + 1, by omega, by first | rfl | simp | go_num, HN⟩
            · have hleI : ¬ (m : Int) ≤ (n0 : Int) := by omega
              have CT := take_calls wr sl db sp0 a b v0 (n0 : Nat) bk HS1.out s (m : Nat) k (by omega)
              have CT := Lib.hid CT
              go_wp2_with fail
              refine CT.out.mono ?_
              rintro e W2 ⟨rfl, h2, h3⟩
              have HN : Hid (∃ (D' : DS), D' = D ∧ Dx (fun k => k = sl) w db D W2 ∧ SlotB W2 sl db a b (stf (k + 1)).1 ((stf (k + 1)).2.1 : Nat) (stf (k + 1)).2.2 bk) := Lib.hid ⟨D, rfl, Dx.only HD1.out h3, by
                rw [HST.out]; unfold seen; rw [if_pos (by show n0 < m; omega)]; exact h2⟩
              clear HD1 HS1 HST CT h2 h3
              go_wp2_with fail
              go_roundg g
              case measure => omega
              case rel => exact ⟨k + 1, by omega, by first | rfl | simp | go_num, HN⟩
          | succ g2 =>
            rcases hj with ⟨hq, rfl⟩ | ⟨hq, rfl⟩ | ⟨hq, rfl⟩
            · go_wp2_with fail
              go_roundg g2
              case measure => omega
              case rel => exact ⟨1, by omega, .inr (.inl ⟨rfl, by first | rfl | simp | go_num⟩), rfl⟩
            · go_wp2_with fail
              go_roundg g2
              case measure => omega
              case rel => exact ⟨2, by omega, .inr (.inr ⟨rfl, by first | rfl | simp | go_num⟩), rfl⟩
            · omega

end Go.Proofs.YtdikmlnpclklnaaGreatDoor.Slot

/-
  SlotLast's disk as data: the value that was put last.
-/
namespace Go.Proofs.YtdikmlnpclklnaaGreatDoor.Slot
open Go Go.RowKit Go.Lib Go.Proofs.YtdikmlnpclklnaaGreatDoor.Law Go.Proofs.YtdikmlnpclklnaaGreatDoor.Disk

/-- Behind n Puts the last of which put this value. -/
def SL (D : DS) (a b : ByteArray) (last : ByteArray) (n : Nat) : Prop :=
  ∃ ca cb ma mb sa sb, SD D 67108864 a b ca cb ∧ szO ca ≤ 60034 ∧ szO cb ≤ 60034 ∧ Has D a ma sa ∧ Has D b mb sb ∧
    ((n = 0 ∧ ma = 0 ∧ mb = 0 ∧ last = ⟨#[]⟩) ∨ (n % 2 = 1 ∧ ma = n ∧ sa = last ∧ mb = n - 1) ∨ (0 < n ∧ n % 2 = 0 ∧ mb = n ∧ sb = last ∧ ma = n - 1))

theorem SL.fresh (a b : ByteArray) : SL (DS.fresh 67108864) a b ⟨#[]⟩ 0 :=
  ⟨none, none, 0, 0, ⟨#[]⟩, ⟨#[]⟩, SD.fresh _ a b, by simp [szO], by simp [szO], .inl ⟨rfl, rfl⟩, .inl ⟨rfl, rfl⟩, .inl ⟨rfl, rfl, rfl, rfl⟩⟩

theorem overL_zero (old f : List Nat) : overL old 0 f = f ++ old.drop f.length := by simp [overL]
theorem over_len (old f : List Nat) (h1 : old.length ≤ 60034) (h2 : f.length ≤ 60034) : (overL old 0 f).length ≤ 60034 := by
  rw [overL_zero, List.length_append, List.length_drop]; omega
theorem Has.keep {D D' : DS} {nm : ByteArray} {m : Nat} {s : ByteArray} (h : Has D nm m s) (hn : D'.now nm = D.now nm) : Has D' nm m s := by
  unfold Has at h ⊢
  rw [hn]
  exact h

/-- One more Put. -/
theorem SL.put {D : DS} {a b last : ByteArray} {n : Nat} (h : SL D a b last n) (hw : WF D) (hab : a ≠ b) (ha : rightB a = true) (hb : rightB b = true) (hn : n < 1000) (s : ByteArray) (hs : s.size ≤ 60000) :
    D.writeN (fileN a b (n % 2)) 0 (frm ((n : Nat) + 1 : Int) s).length = 0 ∧ (D.write (fileN a b (n % 2)) 0 (str (frm ((n : Nat) + 1 : Int) s))).syncN (fileN a b (n % 2)) = 0 ∧
      SL (DS.put D (fileN a b (n % 2)) (frm ((n : Nat) + 1 : Int) s)) a b s (n + 1) ∧ (DS.put D (fileN a b (n % 2)) (frm ((n : Nat) + 1 : Int) s)).made = D.made + 1 := by
  obtain ⟨ca, cb, ma, mb, sa, sb, h1, h2, h3, h4, h5, h6⟩ := h
  have hf := frm_length ((n : Nat) + 1 : Int) s hs
  have hlt := frm_lt ((n : Nat) + 1 : Int) s (by omega) hs
  have ec : ((n : Nat) : Int) + 1 = ((n + 1 : Nat) : Int) := by omega
  by_cases he : n % 2 = 0
  · have ef : fileN a b (n % 2) = a := by unfold fileN; rw [if_pos he]
    rw [ef]
    obtain ⟨q1, q2, q3, q4⟩ := h1.put hw hab ha _ hlt (by omega)
    refine ⟨q1, q2, ⟨_, cb, n + 1, mb, s, sb, q3, ?_, h3, ?_, h5.keep (q3.nowB.trans h1.nowB.symm), .inr (.inl ⟨by omega, rfl, rfl, ?_⟩)⟩, q4⟩
    · exact over_len _ _ (by rw [szO_getD]; exact h2) hf
    · refine .inr ⟨by omega, by omega, hs, (ca.getD []).drop (frm ((n : Nat) + 1 : Int) s).length, ?_⟩
      rw [q3.nowA, overL_zero, ec]
    · rcases h6 with ⟨e1, e2, e3, _⟩ | ⟨e1, _⟩ | ⟨_, _, e3, _⟩
      · omega
      · omega
      · omega
  · have ef : fileN a b (n % 2) = b := by unfold fileN; rw [if_neg he]
    rw [ef]
    obtain ⟨q1, q2, q3, q4⟩ := h1.swap.put hw (Ne.symm hab) hb _ hlt (by omega)
    refine ⟨q1, q2, ⟨ca, _, ma, n + 1, sa, s, q3.swap, h2, ?_, h4.keep (q3.nowB.trans h1.nowA.symm), ?_, .inr (.inr ⟨by omega, by omega, rfl, rfl, ?_⟩)⟩, q4⟩
    · exact over_len _ _ (by rw [szO_getD]; exact h3) hf
    · refine .inr ⟨by omega, by omega, hs, (cb.getD []).drop (frm ((n : Nat) + 1 : Int) s).length, ?_⟩
      rw [q3.nowA, overL_zero, ec]
    · rcases h6 with ⟨e1, _⟩ | ⟨_, e2, _⟩ | ⟨_, e2, _⟩
      · omega
      · omega
      · omega

theorem SL.crash {D : DS} {a b last : ByteArray} {n : Nat} (h : SL D a b last n) (picks : List Int) : SL (D.crash picks) a b last n ∧ (D.crash picks).made = D.made := by
  obtain ⟨ca, cb, ma, mb, sa, sb, h1, h2, h3, h4, h5, h6⟩ := h
  obtain ⟨q1, q2⟩ := h1.crash picks
  exact ⟨⟨ca, cb, ma, mb, sa, sb, q1, h2, h3, h4.keep (q1.nowA.trans h1.nowA.symm), h5.keep (q1.nowB.trans h1.nowB.symm), h6⟩, q2⟩

/-- What a look tells. -/
theorem SL.seen {D : DS} {a b last : ByteArray} {n : Nat} (h : SL D a b last n) : ∃ ma mb sa sb, Has D a ma sa ∧ Has D b mb sb ∧ Slot.seen (Slot.seen (⟨#[]⟩, 0, 0) 0 ma sa) 1 mb sb = (last, n, n % 2) := by
  obtain ⟨ca, cb, ma, mb, sa, sb, h1, h2, h3, h4, h5, h6⟩ := h
  refine ⟨ma, mb, sa, sb, h4, h5, ?_⟩
  rcases h6 with ⟨rfl, rfl, rfl, rfl⟩ | ⟨e1, rfl, rfl, e4⟩ | ⟨e0, e1, rfl, rfl, e4⟩
  · rfl
  · have a1 : Slot.seen (⟨#[]⟩, 0, 0) 0 ma sa = (sa, ma, 1) := by
      unfold Slot.seen
      rw [if_pos (by show 0 < ma; omega)]
    rw [a1]
    unfold Slot.seen
    rw [if_neg (by show ¬ ma < mb; omega), e1]
  · have a1 : (Slot.seen (⟨#[]⟩, 0, 0) 0 ma sa).2.1 < mb := by
      unfold Slot.seen
      by_cases hm : 0 < ma
      · rw [if_pos (by show 0 < ma; exact hm)]; show ma < mb; omega
      · rw [if_neg (by show ¬ 0 < ma; exact hm)]; show 0 < mb; omega
    unfold Slot.seen at a1 ⊢
    rw [if_pos a1, e1]

end Go.Proofs.YtdikmlnpclklnaaGreatDoor.Slot

/-
  Contracts of slot's Open on a disk that has the slot's files, of a Put of a value that is too long, and of a crash.
-/
namespace Go.Proofs.YtdikmlnpclklnaaGreatDoor.Slot
open Go Go.RowKit Go.Lib Go.Proofs.YtdikmlnpclklnaaGreatDoor.Law Go.Proofs.YtdikmlnpclklnaaGreatDoor.Disk

def boxO (W : World) (db : Nat) (s : ByteArray) : World := W.alloc (.cells #[.pointer (some ⟨db, 0, none⟩), .string (nameA s), .string (nameB s), .string ⟨#[]⟩, .int .i64 0, .int .i64 0, .bool false] 115)

set_option maxRecDepth 100000 in
set_option maxHeartbeats 2000000 in
theorem open_calls (w W : World) (db : Nat) (D : DS) (hD : Dk w db D W) (hT : Crc.Tab w) (s : ByteArray) (h : rightS s = true) (ma mb : Nat) (sa sb : ByteArray) (h0 : Has D (nameA s) ma sa) (h1 : Has D (nameB s) mb sb) (last : ByteArray) (n sp : Nat) (hseen : seen (seen (⟨#[]⟩, 0, 0) 0 ma sa) 1 mb sb = (last, n, sp)) :
    Calls Tryz.prog 28 #[.pointer (some ⟨db, 0, none⟩), .string s] W (OpenO w db D s last (n : Nat) sp) := by
  have hsz := right_le h
  have CR := rightName_calls s W (by omega)
  rw [h] at CR
  have CR := Lib.hid CR
  have HMK : Hid (∀ W1, Below W.heap.size W W1 → Calls Tryz.prog 64 #[.pointer (some ⟨W1.heap.size, 0, none⟩)] (boxO W1 db s) fun e W' => e = .returned (.tuple #[]) ∧ Hid (OpenO w db D s last (n : Nat) sp (.returned (.tuple #[.pointer (some ⟨W1.heap.size, 0, none⟩), .int .i64 0])) W')) := Lib.hid fun W1 hB1 => by
    have hB2 : Below W1.heap.size W1 (boxO W1 db s) := (Below.refl _ _).alloc (Nat.le_refl _) _
    have hsz2 : (boxO W1 db s).heap.size = W1.heap.size + 1 := by unfold boxO; simp
    have hx : SlotB (boxO W1 db s) W1.heap.size db (nameA s) (nameB s) ⟨#[]⟩ 0 0 false := by
      show (boxO W1 db s).heap[W1.heap.size]? = _
      unfold boxO
      simp only [World.alloc, Array.getElem?_push_size]
      rfl
    have hd1 := (Dx.of hD).below hB1
    have hd := hd1.add hB2
    have hd2 : Dx (fun k => k = W1.heap.size) w db D (boxO W1 db s) := by
      obtain ⟨O, e1, e2, e3, e4, e5⟩ := hd
      exact ⟨O, e1, e2, e3, e4, fun k hk => e5 k (.inr (by omega))⟩
    have ha : (nameA s).size ≤ 14 := by show (s ++ _).size ≤ _; rw [ByteArray.size_append]; have : (⟨#[45, 97]⟩ : ByteArray).size = 2 := rfl; omega
    have hb : (nameB s).size ≤ 14 := by show (s ++ _).size ≤ _; rw [ByteArray.size_append]; have : (⟨#[45, 98]⟩ : ByteArray).size = 2 := rfl; omega
    refine (look_calls w (boxO W1 db s) W1.heap.size db D _ _ (⟨#[]⟩, 0, 0) false hd2 hx hT ha hb ma mb sa sb h0 h1).mono ?_
    rintro e W' ⟨rfl, e1, e2⟩
    rw [hseen] at e2
    exact ⟨rfl, Lib.hid ⟨W1.heap.size, rfl, e1, e2⟩⟩
  unfold boxO at HMK
  have hA : s ++ ⟨#[45, 97]⟩ = nameA s := rfl
  have hBn : s ++ ⟨#[45, 98]⟩ = nameB s := rfl
  have q1 : (s.size : Int) + 2 ≤ 9223372036854775807 := by omega
  have q2 : ¬ 9223372036854775807 < (s.size : Int) + 2 := by omega
  have q3 : s.size + 2 ≤ 9223372036854775807 := by omega
  have q4 : ¬ (((s.size + 2 : Nat) : Int) > IntKind.i64.max) := by simp [IntKind.max, IntKind.signed, IntKind.bits]; omega
  clear hD hT h0 h1 h hsz hseen
  go_enter Tryz.func28, Tryz.ntmps28
  go_wp2_with fail
  refine CR.out.mono ?_
  rintro e W1 ⟨rfl, hB1⟩
  have HM := Lib.hid (HMK.out W1 hB1)
  clear hB1 HMK CR
  go_wp2_with fail
  refine HM.out.mono ?_
  rintro e W2 ⟨rfl, HF⟩
  clear HM
  go_wp2_with fail
  go_ret2
  exact HF.out

set_option maxRecDepth 100000 in
set_option maxHeartbeats 2000000 in
theorem put_long (W : World) (sl db : Nat) (a b v : ByteArray) (n : Int) (sp : Nat) (hS : SlotB W sl db a b v n sp false) (s : ByteArray) (hs : 60000 < s.size) (hs63 : s.size ≤ 9223372036854775807) :
    Calls Tryz.prog 30 #[.pointer (some ⟨sl, 0, none⟩), .string s] W fun e W' => e = .returned (.int .i64 2) ∧ W' = W := by
  obtain ⟨⟨_, _, _, _, k4, _, k6⟩, _⟩ := hS.cells
  have hsI : (60000 : Int) < (s.size : Int) := by omega
  clear hS hs
  go_enter Tryz.func30, Tryz.ntmps30
  go_wp2_with fail
  go_ret
  exact ⟨rfl, rfl⟩

/-- A crash, with picks that lay before the law. -/
theorem crash_dk {Fr : Nat → Prop} {w W : World} {db : Nat} {D : DS} (h : Dx Fr w db D W) (hmade : D.made ≤ 4294967296) (pv : Value) (picks : List Int) (hp : Ints (fun b => b < w.heap.size) W pv picks) :
    Calls Tryz.prog 16 #[.pointer (some ⟨db, 0, none⟩), pv] W fun e W' => e = .returned (.tuple #[]) ∧ Dk w db (D.crash picks) W' := by
  obtain ⟨O, h1, h2, h3, h4, h5⟩ := h
  have hp2 : Ints (fun b => b < W.heap.size ∧ O b = none) W pv picks := by
    obtain ⟨A, cap, h6, h7, h8⟩ := hp
    refine ⟨A, cap, h6, h7, fun hl => ?_⟩
    obtain ⟨b, off, h9, h10, h11⟩ := h8 hl
    exact ⟨b, off, h9, ⟨Nat.lt_of_lt_of_le h10 h3.size, h2 b h10⟩, h11⟩
  refine (crash_calls W O db D h1 h4 hmade pv picks hp2).mono ?_
  rintro e W' ⟨rfl, O', h6, h7⟩
  obtain ⟨h8, h9⟩ := Dk.past h2 h3 h7
  exact ⟨rfl, O', h6, h8, h9, h4.crash picks⟩

end Go.Proofs.YtdikmlnpclklnaaGreatDoor.Slot

/-
  Contracts of slot's write and Put where the disk refuses, and of a Put behind that.
-/
namespace Go.Proofs.YtdikmlnpclklnaaGreatDoor.Slot
open Go Go.RowKit Go.Lib Go.Proofs.YtdikmlnpclklnaaGreatDoor.Law Go.Proofs.YtdikmlnpclklnaaGreatDoor.Disk

/-- What write leaves where the disk refuses. -/
def Refused (w : World) (sl db : Nat) (D : DS) (a b v : ByteArray) (n : Int) (sp : Nat) (bk : Bool) (r : Nat) (e : Ending) (W : World) : Prop :=
  e = .returned (.int .i64 (r : Nat)) ∧ Dx (fun k => k = sl) w db D W ∧ SlotB W sl db a b v n sp bk

set_option maxRecDepth 100000 in
set_option maxHeartbeats 4000000 in
theorem write_fails (w W : World) (sl db : Nat) (D : DS) (a b v : ByteArray) (n : Int) (sp : Nat) (hsp : sp ≤ 1) (bk : Bool) (hD : Dx (fun k => k = sl) w db D W) (hS : SlotB W sl db a b v n sp bk) (hT : Crc.Tab W) (hmade : D.made ≤ 4000000000)
    (ha : a.size ≤ 14) (hb : b.size ≤ 14) (s : ByteArray) (hs : s.size ≤ 60000) (m : Int) (hm : -9223372036854775808 ≤ m ∧ m ≤ 9223372036854775807)
    (r : Nat) (h0 : D.writeN (fileN a b sp) 0 (frm m s).length = r) (hr : r ≠ 0) :
    Calls Tryz.prog 65 #[.pointer (some ⟨sl, 0, none⟩), .string s, .int .i64 m] W (Refused w sl db D a b v n sp bk r) := by
  have hsz := hD.low.size
  have henc := enc_msg m s hs
  have hput := put_pay m s hs
  have hfl := frm_length m s hs
  obtain ⟨P, hP⟩ : ∃ P, pay m s = P := ⟨_, rfl⟩
  obtain ⟨F, hF⟩ : ∃ F, frm m s = F := ⟨_, rfl⟩
  obtain ⟨L, hL⟩ : ∃ L, F.length = L := ⟨_, rfl⟩
  rw [hP] at henc hput
  rw [hF] at hput hfl h0
  rw [hL] at hfl h0
  have CE : Hid (∀ W2, Below W.heap.size W W2 → Calls Tryz.prog 95 #[.slice (some ⟨W2.heap.size, 0, none⟩) 2 2] (laid W2 m s) fun e W3 => ∃ A l c, e = .returned (.tuple #[.slice A l c, .int .i64 0]) ∧ Hid (Bytes W3.heap.size W3 (.slice A l c) P ∧ Below W.heap.size W W3)) := Lib.hid fun W2 hB2 => by
    refine (Wire.encode_calls (msg m s) (msg_sized m s hm hs) (by simp [msg]) _ _ (laid_old W2 m s)).mono ?_
    rintro e W3 ⟨v3, rfl, hO, hB3⟩
    rw [henc] at hO ⊢
    have hl := laid_below W2 m s
    obtain ⟨A, c, rfl⟩ := hO.bytes.form
    exact ⟨A, _, c, rfl, Lib.hid ⟨hO.bytes, (hB2.trans (hl.mono hB2.size)).trans (hB3.mono (Nat.le_trans hB2.size hl.size))⟩⟩
  have CP : Hid (∀ W3 A l c, Below W.heap.size W W3 → Bytes W3.heap.size W3 (.slice A l c) P → Calls Tryz.prog 50 #[.slice A l c] W3 fun e W4 => ∃ A4 c4, e = .returned (.tuple #[.slice A4 L c4, .int .i64 0]) ∧ Hid (Bytes W4.heap.size W4 (.slice A4 L c4) F ∧ Below W.heap.size W W4)) := Lib.hid fun W3 A l c hB3 hI => by
    refine (Frame.put_calls _ P W3 (hT.below hB3) hI).mono ?_
    rintro e W4 ⟨v4, rfl, hO, hB4⟩
    rw [hput] at hO ⊢
    obtain ⟨A4, c4, rfl⟩ := hO.bytes.form
    rw [hL] at hO ⊢
    exact ⟨A4, c4, rfl, Lib.hid ⟨hO.bytes, hB3.trans (hB4.mono hB3.size)⟩⟩
  have CW : Hid (∀ W0 A c, Below W.heap.size W W0 → Bytes W0.heap.size W0 (.slice A L c) F → Calls Tryz.prog 10 #[.pointer (some ⟨db, 0, none⟩), .string (fileN a b sp), .int .i64 0, .slice A L c] W0 fun e W5 => e = .returned (.int .i64 (r : Nat)) ∧ Hid (Refused w sl db D a b v n sp bk r (.returned (.int .i64 (r : Nat))) W5)) := Lib.hid fun W0 A c hB0 hI => by
    have hnm : (fileN a b sp).size ≤ 14 := by unfold fileN; split <;> assumption
    have h := (hD.below hB0).write (by omega) (fileN a b sp) (by omega) 0 (by decide) (.slice A L c) F (by omega) hI
    have hst : D.write (fileN a b sp) 0 (str F) = D := by unfold DS.write; rw [str_size, hL, h0, if_neg hr]
    rw [hL, h0, hst] at h
    refine h.mono ?_
    rintro e W5 ⟨rfl, h5, h6⟩
    exact ⟨rfl, Lib.hid ⟨rfl, h5, (h6.1 sl rfl).trans (hS.below hB0)⟩⟩
  have HSB : Hid (∀ W0, Below W.heap.size W W0 → SlotB W0 sl db a b v n sp bk) := Lib.hid fun W0 hB => hS.below hB
  have HBD : Hid (∀ (W0 W1 : World), Below W.heap.size W W0 → Below W0.heap.size W0 W1 → Below W.heap.size W W1) := Lib.hid fun W0 W1 h h' => h.trans (h'.mono h.size)
  have hrI : ((r : Int) != 0) = true := by rw [bne_iff_ne]; omega
  clear hD hS hT henc hput hfl hP hF hL h0 hmade hsz hr
  obtain rfl | rfl : sp = 0 ∨ sp = 1 := by omega
  all_goals
    unfold fileN at CW
    simp only [if_true, Nat.one_ne_zero, if_false] at CW
    go_enter Tryz.func65, Tryz.ntmps65
    go_wp2_with fail
    refine (int_calls m _).mono ?_
    rintro e W1 ⟨rfl, hB1⟩
    go_wp2_with fail
    refine (text_calls s _).mono ?_
    rintro e W2 ⟨rfl, hB2⟩
    have HB2 := Lib.hid (HBD.out _ _ hB1 hB2)
    have CE2 := Lib.hid (CE.out W2 HB2.out)
    unfold laid at CE2
    clear hB1 hB2 CE
    go_wp2_with fail
    refine CE2.out.mono ?_
    rintro e W3 ⟨A3, l3, c3, rfl, H3⟩
    have CP3 := Lib.hid (CP.out W3 A3 l3 c3 H3.out.2 H3.out.1)
    clear CE2 CP H3 HB2
    go_wp2_with fail
    refine CP3.out.mono ?_
    rintro e W4 ⟨A4, c4, rfl, H4⟩
    obtain ⟨⟨k0, k1, k2, _, _, k5, _⟩, _⟩ := (HSB.out W4 H4.out.2).cells
    have HBW : Hid (Below W.heap.size W W4.drew) := Lib.hid (HBD.out _ _ H4.out.2 (Below.refl _ _).drew)
    have HIW : Hid (Bytes W4.drew.heap.size W4.drew (.slice A4 L c4) F) := Lib.hid H4.out.1
    have CW4 := Lib.hid (CW.out W4.drew A4 c4 HBW.out HIW.out)
    clear CP3 CW HBW HIW
    go_wp2_with fail
    go_region_with (go_at_call 10; ((with_reducible refine CW4.out.mono ?_); rintro e W5 ⟨rfl, H5⟩))
    all_goals
      go_wp2_with fail
      go_ret
      exact H5.out

set_option maxRecDepth 100000 in
set_option maxHeartbeats 4000000 in
theorem put_fails (w W : World) (sl db : Nat) (D : DS) (a b v : ByteArray) (n : Int) (sp : Nat) (hsp : sp ≤ 1) (hD : Dx (fun k => k = sl) w db D W) (hS : SlotB W sl db a b v n sp false) (hT : Crc.Tab W) (hmade : D.made ≤ 4000000000)
    (ha : a.size ≤ 14) (hb : b.size ≤ 14) (s : ByteArray) (hs : s.size ≤ 60000) (hn : 0 ≤ n ∧ n < 9223372036854775807)
    (r : Nat) (h0 : D.writeN (fileN a b sp) 0 (frm (n + 1) s).length = r) (hr : r ≠ 0) :
    Calls Tryz.prog 30 #[.pointer (some ⟨sl, 0, none⟩), .string s] W (Refused w sl db D a b v n sp true r) := by
  have CW := Lib.hid (write_fails w W sl db D a b v n sp hsp false hD hS hT hmade ha hb s hs (n + 1) (by omega) r h0 hr)
  obtain ⟨⟨_, _, _, _, k4, _, k6⟩, _⟩ := hS.cells
  have hsI : (s.size : Int) ≤ 60000 := by omega
  obtain ⟨hn0, hn1⟩ := hn
  have hnI : (n == 9223372036854775807) = false := by rw [beq_eq_false_iff_ne]; omega
  have hrI : ((r : Int) != 0) = true := by rw [bne_iff_ne]; omega
  clear hD hS hT h0 hmade ha hb hsp hr
  go_enter Tryz.func30, Tryz.ntmps30
  go_wp2_with fail
  refine CW.out.mono ?_
  rintro e W1 ⟨rfl, h1, h2⟩
  obtain ⟨⟨_, _, _, _, _, _, j6⟩, jz⟩ := h2.cells
  have jz6 := jz 6
  have HF : Hid (Refused w sl db D a b v n sp true r (.returned (.int .i64 (r : Nat))) (W1.setCell ⟨sl, 6, none⟩ (.bool true))) := Lib.hid ⟨rfl, Dx.only h1 (Only.set W1 sl 6 _), by
    have := slot_set h2 6 (.bool true)
    exact this.trans (by simp)⟩
  clear h1 h2 jz CW k4 k6
  go_wp2_with fail
  go_ret
  exact HF.out

set_option maxRecDepth 100000 in
set_option maxHeartbeats 2000000 in
theorem put_broken (W : World) (sl db : Nat) (a b v : ByteArray) (n : Int) (sp : Nat) (hS : SlotB W sl db a b v n sp true) (s : ByteArray) :
    Calls Tryz.prog 30 #[.pointer (some ⟨sl, 0, none⟩), .string s] W fun e W' => e = .returned (.int .i64 9) ∧ W' = W := by
  obtain ⟨⟨_, _, _, _, _, _, k6⟩, _⟩ := hS.cells
  clear hS
  go_enter Tryz.func30, Tryz.ntmps30
  go_wp2_with fail
  go_ret
  exact ⟨rfl, rfl⟩

end Go.Proofs.YtdikmlnpclklnaaGreatDoor.Slot

/-
  Contracts of the document's slot: Held, Value.
-/
namespace Go.Proofs.YtdikmlnpclklnaaGreatDoor.Slot
open Go Go.RowKit Go.Lib Go.Proofs.YtdikmlnpclklnaaGreatDoor.Law Go.Proofs.YtdikmlnpclklnaaGreatDoor.Disk

/-- The bytes begin with version m of a value, or there are none. -/
def HasC (c : List Nat) (m : Nat) (s : ByteArray) : Prop := (m = 0 ∧ s = ⟨#[]⟩ ∧ c = []) ∨ (0 < m ∧ m ≤ 9223372036854775807 ∧ s.size ≤ 60000 ∧ ∃ rest, c = frm (m : Nat) s ++ rest)

theorem answer_at (bs : List Nat) : Frame.answerN bs 0 = Frame.nextN bs 0 := by
  unfold Frame.answerN
  rw [if_neg (by omega)]
  rfl

set_option maxRecDepth 100000 in
set_option maxHeartbeats 4000000 in
theorem held_calls (sv : Value) (c : List Nat) (m : Nat) (s : ByteArray) (h : HasC c m s) (hreach : c.length ≤ 1073741824) (W : World) (hI : Bytes W.heap.size W sv c) :
    Calls Tryz.prog 67 #[sv] W fun e W' => e = .returned (.tuple #[.string s, .int .i64 (m : Nat)]) ∧ Below W.heap.size W W' := by
  rcases h with ⟨rfl, rfl, rfl⟩ | ⟨hm0, hm1, hs, rest, rfl⟩
  · have CN := Lib.hid (Frame.refnext_calls sv [] (by simp) 0 W hI)
    rw [answer_at, next_none] at CN
    obtain ⟨A, cap, rfl⟩ := hI.form
    clear hI hreach
    go_enter Tryz.func67, Tryz.ntmps67
    go_wp2_with fail
    refine CN.out.mono ?_
    rintro e W1 ⟨v1, rfl, hO, hB⟩
    have hb1 : Bytes W1.heap.size W1 v1 [] := hO.bytes
    obtain ⟨A1, c1, rfl⟩ := hb1.form
    have HB := Lib.hid hB
    clear hO hB hb1 CN
    go_wp2_with fail
    go_ret2
    exact ⟨rfl, HB.out⟩
  · have hpl := pay_length (m : Nat) s hs
    have CN := Lib.hid (Frame.refnext_calls sv (frm (m : Nat) s ++ rest) (by omega) 0 W hI)
    rw [answer_at, next_frm (m : Nat) s hs rest] at CN
    have CD : Hid (∀ W2 v2, Bytes W2.heap.size W2 v2 (pay (m : Nat) s) → Below W.heap.size W W2 → Calls Tryz.prog 99 #[v2] W2 fun e W3 => ∃ g off cap, e = .returned (.tuple #[.slice (some ⟨g, off, none⟩) 2 cap, .int .i64 0]) ∧ Hid (Two2 W3 (m : Nat) s (.slice (some ⟨g, off, none⟩) 2 cap) ∧ Below W.heap.size W W3)) := Lib.hid fun W2 v2 hI2 hB2 => by
      refine (Wire.refdecode_calls (pay (m : Nat) s) (by omega) _ W2 hI2).mono ?_
      rintro e W3 ⟨u, rfl, hB3, hit⟩
      rw [dec_pay (m : Nat) s (by omega) hs] at hit ⊢
      have h2 := two2_of hit
      obtain ⟨g, off, cap, rfl, _⟩ := id h2
      exact ⟨g, off, cap, rfl, Lib.hid ⟨h2, hB2.trans (hB3.mono hB2.size)⟩⟩
    have hmI : ¬ (m : Int) < 1 := by omega
    obtain ⟨A, cap, rfl⟩ := hI.form
    obtain ⟨L, hL⟩ : ∃ L, (frm (m : Nat) s ++ rest).length = L := ⟨_, rfl⟩
    rw [hL] at CN ⊢
    clear hI hreach hpl hm0 hm1 hL
    go_enter Tryz.func67, Tryz.ntmps67
    go_wp2_with fail
    refine CN.out.mono ?_
    rintro e W1 ⟨v1, rfl, hO, hB⟩
    have hb1 : Bytes W1.heap.size W1 v1 (pay (m : Nat) s) := hO.bytes
    obtain ⟨A1, c1, rfl⟩ := hb1.form
    have CD1 := Lib.hid (CD.out W1 _ hb1 hB)
    clear hO hB hb1 CN CD
    go_wp2_with fail
    refine CD1.out.mono ?_
    rintro e W2 ⟨g, off, cp, rfl, H2⟩
    obtain ⟨g', off', cap', he, hcap, hg, q0, q1, q4, q6⟩ := H2.out.1
    simp only [Value.slice.injEq, Option.some.injEq, Addr.mk.injEq, and_true, true_and] at he
    obtain ⟨⟨rfl, rfl⟩, rfl⟩ := he
    have HB := Lib.hid H2.out.2
    have hcapI : (2 : Int) ≤ (cp : Int) := by omega
    clear H2 CD1
    go_wp2_with fail
    go_quiet (fail)
    go_wp2_with fail
    go_ret2
    have hBB := HB.out
    exact ⟨rfl, ⟨hBB.os, hBB.tape, hBB.output, hBB.size, hBB.block⟩⟩

/-- What Value tells. -/
def valueN (ma mb : Nat) (sa sb : ByteArray) : ByteArray × Nat × Int := if ma = 0 ∧ mb = 0 then (⟨#[]⟩, 0, -1) else if ma < mb then (sb, mb, 1) else (sa, ma, 0)

set_option maxRecDepth 100000 in
set_option maxHeartbeats 4000000 in
theorem value_calls (va vb : Value) (ca cb : List Nat) (ma mb : Nat) (sa sb : ByteArray) (ha : HasC ca ma sa) (hb : HasC cb mb sb) (hra : ca.length ≤ 1073741824) (hrb : cb.length ≤ 1073741824) (W : World) (hA : Bytes W.heap.size W va ca) (hB : Bytes W.heap.size W vb cb) :
    Calls Tryz.prog 33 #[va, vb] W fun e W' => e = .returned (.tuple #[.string (valueN ma mb sa sb).1, .int .i64 ((valueN ma mb sa sb).2.1 : Nat), .int .i64 (valueN ma mb sa sb).2.2]) ∧ Below W.heap.size W W' := by
  have CA := Lib.hid (held_calls va ca ma sa ha hra W hA)
  have CB : Hid (∀ W1, Below W.heap.size W W1 → Calls Tryz.prog 67 #[vb] W1 fun e W' => e = .returned (.tuple #[.string sb, .int .i64 (mb : Nat)]) ∧ Below W1.heap.size W1 W') := Lib.hid fun W1 h1 => held_calls vb cb mb sb hb hrb W1 (hB.on h1)
  obtain ⟨A, c1, rfl⟩ := hA.form
  obtain ⟨B, c2, rfl⟩ := hB.form
  obtain ⟨R, hR⟩ : ∃ R, valueN ma mb sa sb = R := ⟨_, rfl⟩
  rw [hR]
  have hcase : (ma = 0 ∧ mb = 0 ∧ R = (⟨#[]⟩, 0, -1)) ∨ (0 < mb ∧ ma < mb ∧ R = (sb, mb, 1)) ∨ (0 < ma ∧ ¬ ma < mb ∧ R = (sa, ma, 0)) := by
    unfold valueN at hR
    by_cases h0 : ma = 0 ∧ mb = 0
    · rw [if_pos h0] at hR; exact .inl ⟨h0.1, h0.2, hR.symm⟩
    · rw [if_neg h0] at hR
      by_cases h1 : ma < mb
      · rw [if_pos h1] at hR; exact .inr (.inl ⟨by omega, h1, hR.symm⟩)
      · rw [if_neg h1] at hR; exact .inr (.inr ⟨by omega, h1, hR.symm⟩)
  clear ha hb hra hrb hA hB hR
  rcases hcase with ⟨rfl, rfl, rfl⟩ | ⟨hp, hlt, rfl⟩ | ⟨hp, hlt, rfl⟩
  · go_enter Tryz.func33, Tryz.ntmps33
    go_wp2_with fail
    refine CA.out.mono ?_
    rintro e W1 ⟨rfl, hB1⟩
    have CB1 := Lib.hid (CB.out W1 hB1)
    have HB1 := Lib.hid hB1
    clear hB1 CA CB
    go_wp2_with fail
    refine CB1.out.mono ?_
    rintro e W2 ⟨rfl, hB2⟩
    have HB2 := Lib.hid (HB1.out.trans (hB2.mono HB1.out.size))
    clear hB2 CB1
    go_wp2_with fail
    go_ret3
    exact ⟨rfl, HB2.out⟩
  · have e0 : ((mb : Int) == 0) = false := by rw [beq_eq_false_iff_ne]; omega
    have e1 : (ma : Int) < (mb : Int) := by omega
    go_enter Tryz.func33, Tryz.ntmps33
    go_wp2_with fail
    refine CA.out.mono ?_
    rintro e W1 ⟨rfl, hB1⟩
    have CB1 := Lib.hid (CB.out W1 hB1)
    have HB1 := Lib.hid hB1
    clear hB1 CA CB
    go_wp2_with fail
    refine CB1.out.mono ?_
    rintro e W2 ⟨rfl, hB2⟩
    have HB2 := Lib.hid (HB1.out.trans (hB2.mono HB1.out.size))
    clear hB2 CB1
    by_cases hz : ma = 0
    · subst hz
      go_wp2_with fail
      go_ret3
      exact ⟨rfl, HB2.out⟩
    · have e2 : ((ma : Int) == 0) = false := by rw [beq_eq_false_iff_ne]; omega
      go_wp2_with fail
      go_ret3
      exact ⟨rfl, HB2.out⟩
  · have e0 : ((ma : Int) == 0) = false := by rw [beq_eq_false_iff_ne]; omega
    have e1 : ¬ (ma : Int) < (mb : Int) := by omega
    go_enter Tryz.func33, Tryz.ntmps33
    go_wp2_with fail
    refine CA.out.mono ?_
    rintro e W1 ⟨rfl, hB1⟩
    have CB1 := Lib.hid (CB.out W1 hB1)
    have HB1 := Lib.hid hB1
    clear hB1 CA CB
    go_wp2_with fail
    refine CB1.out.mono ?_
    rintro e W2 ⟨rfl, hB2⟩
    have HB2 := Lib.hid (HB1.out.trans (hB2.mono HB1.out.size))
    clear hB2 CB1
    go_wp2_with fail
    go_ret3
    exact ⟨rfl, HB2.out⟩

end Go.Proofs.YtdikmlnpclklnaaGreatDoor.Slot
