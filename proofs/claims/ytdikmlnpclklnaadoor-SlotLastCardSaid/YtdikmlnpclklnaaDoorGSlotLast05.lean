/-
  Put together out of texts of one chain: what they hold stands ahead of each.
-/
import Derived.Test.YtdikmlnpclklnaaDoorGSlotNames15
import Derived.Test.YtdikmlnpclklnaaDoorGSlotNames10
import Derived.Test.YtdikmlnpclklnaaDoorGSlotLast04
import Derived.Test.YtdikmlnpclklnaaDoorGSlotNames12
/-
  Contract of slot's read on a file that begins with a value's frame.
-/
namespace Go.Proofs.YtdikmlnpclklnaaDoor.Slot
open Go Go.RowKit Go.Lib Go.Proofs.YtdikmlnpclklnaaDoor.Law Go.Proofs.YtdikmlnpclklnaaDoor.Disk

theorem next_frm (m : Int) (s : ByteArray) (hs : s.size ≤ 60000) (rest : List Nat) : Frame.nextN (frm m s ++ rest) 0 = (pay m s, 12 + (pay m s).length, 0) := by
  have h := pay_length m s hs
  unfold Frame.nextN
  rw [List.drop_zero]
  have := Frame.readN_frame (pay m s) rest (by omega) 0
  rw [Nat.zero_add] at this
  exact this
theorem dec_pay (m : Int) (s : ByteArray) (hm : -9223372036854775808 ≤ m ∧ m ≤ 9223372036854775807) (hs : s.size ≤ 60000) : Wire.decR (pay m s) = (msg m s, 0) := by
  have he := enc_msg m s hs
  have h := Wire.dec_enc (msg_sized m s hm hs) (by rw [he])
  rw [he] at h
  unfold Wire.decR
  rw [h]
  rfl

/-- The two items that come back. -/
def Two2 (W : World) (m : Int) (s : ByteArray) (v : Value) : Prop :=
  ∃ g off cap, v = .slice (some ⟨g, off, none⟩) 2 cap ∧ 2 ≤ cap ∧ g < W.heap.size ∧ W.cell? ⟨g, off, none⟩ = some (.int .i64 0) ∧ W.cell? ⟨g, off + 1, none⟩ = some (.int .i64 m) ∧ W.cell? ⟨g, off + 4, none⟩ = some (.int .i64 1) ∧ W.cell? ⟨g, off + 6, none⟩ = some (.string s)
theorem two2_of {lo : Nat} {W : World} {m : Int} {s : ByteArray} {u : Value} (h : Wire.Items (fun b => lo ≤ b ∧ b < W.heap.size) W u (msg m s)) : Two2 W m s u := by
  obtain ⟨A, cap, rfl, hcap⟩ := h.form
  have h2 : (msg m s).length = 2 := rfl
  rw [h2] at h hcap ⊢
  obtain ⟨b, off, rfl, hb, hc⟩ := h.at (by omega)
  obtain ⟨u0, ⟨c00, c01, _, _⟩, _⟩ := hc 0 _ rfl
  obtain ⟨u1, ⟨c10, _, c12, _⟩, _⟩ := hc 1 _ rfl
  refine ⟨b, off, cap, rfl, hcap, hb.2, ?_, ?_, ?_, ?_⟩
  · simpa [Wire.Item.kind, Wire.Item.n, Wire.Item.s] using c00
  · simpa [Wire.Item.kind, Wire.Item.n, Wire.Item.s] using c01
  · simpa [Wire.Item.kind, Wire.Item.n, Wire.Item.s] using c10
  · simpa [Wire.Item.kind, Wire.Item.n, Wire.Item.s] using c12

set_option maxRecDepth 100000 in
set_option maxHeartbeats 4000000 in
theorem read_some (w W : World) (sl db : Nat) (D : DS) (a b v : ByteArray) (n : Int) (sp : Nat) (bk : Bool) (hD : Dx (fun k => k = sl) w db D W) (hS : SlotB W sl db a b v n sp bk) (hT : Crc.Tab W) (ha : a.size ≤ 14) (hb : b.size ≤ 14) (f : Nat) (hf : f ≤ 1)
    (m : Int) (hm : -9223372036854775808 ≤ m ∧ m ≤ 9223372036854775807) (s : ByteArray) (hs : s.size ≤ 60000) (rest : List Nat) (h0 : D.now (fileN a b f) = some (frm m s ++ rest)) :
    Calls Tryd.prog 27 #[.pointer (some ⟨sl, 0, none⟩), .int .i64 (f : Nat)] W fun e W' => ∃ u, e = .returned u ∧ Two2 W' m s u ∧ Below W.heap.size W W' := by
  have hlen : (frm m s ++ rest).length ≤ 1073741824 := by
    obtain ⟨O, _, _, _, hw, _⟩ := id hD
    exact hw.nowSz _ _ h0
  have hpl := pay_length m s hs
  obtain ⟨L, hL⟩ : ∃ L, (frm m s ++ rest).length = L := ⟨_, rfl⟩
  have CR : Hid (∀ W0, Below W.heap.size W W0 → Calls Tryd.prog 47 #[.pointer (some ⟨db, 0, none⟩), .string (fileN a b f)] W0 fun e W1 => ∃ A c, e = .returned (.tuple #[.slice A L c, .bool true]) ∧ Hid (Bytes W1.heap.size W1 (.slice A L c) (frm m s ++ rest) ∧ Below W.heap.size W W1)) := Lib.hid fun W0 hB0 => by
    have hnm : (fileN a b f).size ≤ 14 := by unfold fileN; split <;> assumption
    have h := (hD.below hB0).read (fileN a b f) (by show (fileN a b f).size ≤ maxLen; simp only [maxLen]; omega)
    rw [h0] at h
    refine h.mono ?_
    rintro e W1 ⟨v1, rfl, hO, hB1⟩
    have hbt : Bytes W1.heap.size W1 v1 (frm m s ++ rest) := hO.bytes
    obtain ⟨A, c, rfl⟩ := hbt.form
    rw [hL] at hbt ⊢
    exact ⟨A, c, rfl, Lib.hid ⟨hbt, hB0.trans (hB1.mono hB0.size)⟩⟩
  have CN : Hid (∀ W1 A c, Bytes W1.heap.size W1 (.slice A L c) (frm m s ++ rest) → Below W.heap.size W W1 → Calls Tryd.prog 48 #[.slice A L c, .int .i64 0] W1 fun e W2 => ∃ A2 l2 c2 z, e = .returned (.tuple #[.slice A2 l2 c2, .int .i64 z, .int .i64 0]) ∧ Hid (Bytes W2.heap.size W2 (.slice A2 l2 c2) (pay m s) ∧ Below W.heap.size W W2)) := Lib.hid fun W1 A c hI hB => by
    refine (Frame.next_at _ (frm m s ++ rest) (by omega) 0 (Nat.zero_le _) W1 (hT.below hB) hI).mono ?_
    rintro e W2 ⟨v2, rfl, hO, hB2⟩
    rw [next_frm m s hs] at hO ⊢
    have hb2 : Bytes W2.heap.size W2 v2 (pay m s) := hO.bytes
    obtain ⟨A2, c2, rfl⟩ := hb2.form
    exact ⟨A2, _, c2, _, rfl, Lib.hid ⟨hb2, hB.trans (hB2.mono hB.size)⟩⟩
  have CD : Hid (∀ W2 A2 l2 c2, Bytes W2.heap.size W2 (.slice A2 l2 c2) (pay m s) → Below W.heap.size W W2 → Calls Tryd.prog 49 #[.slice A2 l2 c2] W2 fun e W3 => ∃ g off cap, e = .returned (.tuple #[.slice (some ⟨g, off, none⟩) 2 cap, .int .i64 0]) ∧ Hid (Two2 W3 m s (.slice (some ⟨g, off, none⟩) 2 cap) ∧ Below W.heap.size W W3)) := Lib.hid fun W2 A2 l2 c2 hI hB => by
    refine (Wire.decode_calls (pay m s) (by omega) _ W2 hI).mono ?_
    rintro e W3 ⟨u, rfl, hB3, hit⟩
    rw [dec_pay m s hm hs] at hit ⊢
    have h2 := two2_of hit
    obtain ⟨g, off, cap, rfl, _⟩ := id h2
    exact ⟨g, off, cap, rfl, Lib.hid ⟨h2, hB.trans (hB3.mono hB.size)⟩⟩
  obtain ⟨⟨k0, k1, k2, _⟩, _⟩ := hS.cells
  have HBD : Hid (Below W.heap.size W W.drew) := Lib.hid (Below.refl _ _).drew
  clear hD hS hT h0 hlen hpl hL
  obtain rfl | rfl : f = 0 ∨ f = 1 := by omega
  all_goals
    unfold fileN at CR
    simp only [if_true, Nat.one_ne_zero, if_false] at CR
    go_enter Tryd.func27, Tryd.ntmps27
    go_wp2_with fail
    go_region_with (go_at_call 47; ((with_reducible refine (CR.out _ HBD.out).mono ?_); rintro e W1 ⟨A1, c1, rfl, H1⟩))
    all_goals
      have CN1 := Lib.hid (CN.out W1 A1 c1 H1.out.1 H1.out.2)
      clear CN CR H1
      go_wp2_with fail
      refine CN1.out.mono ?_
      rintro e W2 ⟨A2, l2, c2, z, rfl, H2⟩
      have CD2 := Lib.hid (CD.out W2 A2 l2 c2 H2.out.1 H2.out.2)
      clear CD CN1 H2
      go_wp2_with fail
      refine CD2.out.mono ?_
      rintro e W3 ⟨g, off, cap, rfl, H3⟩
      go_wp2_with fail
      go_ret
      exact ⟨_, rfl, H3.out.1, H3.out.2⟩

end Go.Proofs.YtdikmlnpclklnaaDoor.Slot

/-
  Contracts of slot's look and Open on a disk that has files of the slot.
-/
namespace Go.Proofs.YtdikmlnpclklnaaDoor.Slot
open Go Go.RowKit Go.Lib Go.Proofs.YtdikmlnpclklnaaDoor.Law Go.Proofs.YtdikmlnpclklnaaDoor.Disk

/-- A file holds version m of a value, or isn't there. -/
def Has (D : DS) (nm : ByteArray) (m : Nat) (s : ByteArray) : Prop :=
  (m = 0 ∧ D.now nm = none) ∨ (0 < m ∧ m ≤ 9223372036854775807 ∧ s.size ≤ 60000 ∧ ∃ rest, D.now nm = some (frm (m : Nat) s ++ rest))
/-- What looking at a file makes of value, version and spare. -/
def seen (st : ByteArray × Nat × Nat) (f m : Nat) (s : ByteArray) : ByteArray × Nat × Nat := if st.2.1 < m then (s, m, 1 - f) else st

set_option maxRecDepth 100000 in
set_option maxHeartbeats 8000000 in
theorem look_calls (w W : World) (sl db : Nat) (D : DS) (a b : ByteArray) (st : ByteArray × Nat × Nat) (bk : Bool) (hD : Dx (fun k => k = sl) w db D W) (hS : SlotB W sl db a b st.1 (st.2.1 : Nat) st.2.2 bk) (hT : Crc.Tab w) (ha : a.size ≤ 14) (hb : b.size ≤ 14)
    (ma mb : Nat) (sa sb : ByteArray) (h0 : Has D a ma sa) (h1 : Has D b mb sb) :
    Calls Tryd.prog 16 #[.pointer (some ⟨sl, 0, none⟩)] W fun e W' => e = .returned (.tuple #[]) ∧ Dx (fun k => k = sl) w db D W' ∧ SlotB W' sl db a b (seen (seen st 0 ma sa) 1 mb sb).1 ((seen (seen st 0 ma sa) 1 mb sb).2.1 : Nat) (seen (seen st 0 ma sa) 1 mb sb).2.2 bk := by
  obtain ⟨stf, hstf⟩ : ∃ f : Nat → ByteArray × Nat × Nat, f = fun k => if k = 0 then st else if k = 1 then seen st 0 ma sa else seen (seen st 0 ma sa) 1 mb sb := ⟨_, rfl⟩
  have HALL : Hid (∀ (k : Nat), k < 2 → ∃ (m : Nat) (s : ByteArray), Has D (fileN a b k) m s ∧ stf (k + 1) = seen (stf k) k m s) := Lib.hid fun k hk => by
    obtain rfl | rfl : k = 0 ∨ k = 1 := by omega
    · exact ⟨ma, sa, h0, by rw [hstf]; rfl⟩
    · exact ⟨mb, sb, h1, by rw [hstf]; rfl⟩
  have HST0 : Hid (stf 0 = st) := Lib.hid (by rw [hstf]; rfl)
  have HST2 : Hid (stf 2 = seen (seen st 0 ma sa) 1 mb sb) := Lib.hid (by rw [hstf]; rfl)
  have HINV : Hid (∃ (D' : DS), D' = D ∧ Dx (fun k => k = sl) w db D W ∧ SlotB W sl db a b (stf 0).1 ((stf 0).2.1 : Nat) (stf 0).2.2 bk) := Lib.hid ⟨D, rfl, hD, by rw [HST0.out]; exact hS⟩
  have HT : Hid (∀ W1, Dx (fun k => k = sl) w db D W1 → Crc.Tab W1) := Lib.hid fun W1 h => hT.below h.low
  have HSZ := Lib.hid (And.intro ha hb)
  clear hD hS hT h0 h1 hstf ha hb
  have i0 : ∀ w, (Instr.index 75 (.agg #[.int .i64 0, .int .i64 1]) (.int .i64 0)).run Tryd.prog w = .ok (.int .i64 0) w := fun _ => by kernel_rfl
  have i1 : ∀ w, (Instr.index 75 (.agg #[.int .i64 0, .int .i64 1]) (.int .i64 1)).run Tryd.prog w = .ok (.int .i64 1) w := fun _ => by kernel_rfl
  go_enter Tryd.func16, Tryd.ntmps16
  go_wp2_with fail
  go_step3
  go_wp2_with fail
  go_step3
  go_wp2_with fail
  go_loopg [7] 2 (fun g i wr => ∃ k : Nat, k + g = 2 ∧ i = .int .i64 k ∧ Hid (∃ (D' : DS), D' = D ∧ Dx (fun k => k = sl) w db D wr ∧ SlotB wr sl db a b (stf k).1 ((stf k).2.1 : Nat) (stf k).2.2 bk))
  case atStart => exact ⟨0, rfl, rfl, HINV⟩
  case round =>
    obtain ⟨k, hkg, rfl, HI⟩ := hrel
    cases gk with
    | zero =>
      obtain rfl : k = 2 := by omega
      have HF : Hid (Dx (fun k => k = sl) w db D wr ∧ SlotB wr sl db a b (seen (seen st 0 ma sa) 1 mb sb).1 ((seen (seen st 0 ma sa) 1 mb sb).2.1 : Nat) (seen (seen st 0 ma sa) 1 mb sb).2.2 bk) := Lib.hid (by
        obtain ⟨_, _, e1, e2⟩ := HI.out
        rw [HST2.out] at e2
        exact ⟨e1, e2⟩)
      clear HI HINV
      go_wp2_with fail
      try rw [Exit.noGoto_normal]
      go_end0
      exact ⟨rfl, HF.out⟩
    | succ g =>
      have hk2 : k < 2 := by omega
      have hkI : (k : Int) < 2 := by omega
      obtain ⟨m, s, hhas, hst⟩ := HALL.out k hk2
      obtain ⟨_, _, hD, hS⟩ := HI.out
      rcases hhas with ⟨rfl, hnone⟩ | ⟨hm0, hm1, hs, rest, hsome⟩
      · have CR := Lib.hid (read_none w wr sl db D a b _ _ _ bk hD hS (HT.out wr hD) HSZ.out.1 HSZ.out.2 k (by omega) hnone)
        have hst2 : stf (k + 1) = stf k := by rw [hst]; unfold seen; rw [if_neg (by omega)]
        have HKEEP : Hid (∀ W1, Below wr.heap.size wr W1 → ∃ (D' : DS), D' = D ∧ Dx (fun k => k = sl) w db D W1 ∧ SlotB W1 sl db a b (stf (k + 1)).1 ((stf (k + 1)).2.1 : Nat) (stf (k + 1)).2.2 bk) := Lib.hid fun W1 hB => ⟨D, rfl, hD.below hB, by rw [hst2]; exact hS.below hB⟩
        clear hD hS hst hst2 hnone HI HINV
        go_wp2_with fail
        refine CR.out.mono ?_
        rintro e W1 ⟨rfl, hB1⟩
        have HN := Lib.hid (HKEEP.out W1 hB1)
        clear hB1 CR HKEEP
        go_wp2_with fail
        go_roundg g
        case measure => omega
        case rel => exact ⟨k + 1, by omega, by first | rfl | simp | go_num, HN⟩
      · have CR := Lib.hid (read_some w wr sl db D a b _ _ _ bk hD hS (HT.out wr hD) HSZ.out.1 HSZ.out.2 k (by omega) (m : Nat) (by omega) s hs rest hsome)
        obtain ⟨⟨v0, n0, sp0⟩, hst0⟩ : ∃ t, stf k = t := ⟨_, rfl⟩
        rw [hst0] at hS hst
        have hS : SlotB wr sl db a b v0 (n0 : Nat) sp0 bk := hS
        have HSK : Hid (∀ W1, Below wr.heap.size wr W1 → Dx (fun k => k = sl) w db D W1 ∧ SlotB W1 sl db a b v0 (n0 : Nat) sp0 bk) := Lib.hid fun W1 hB => ⟨hD.below hB, hS.below hB⟩
        have HST := Lib.hid hst
        clear hD hS hst hst0 hsome HI HINV
        go_wp2_with fail
        refine CR.out.mono ?_
        rintro e W1 ⟨u, rfl, ⟨gb, off, cap, rfl, hcap, hgb, q0, q1, q4, q6⟩, hB1⟩
        obtain ⟨hD1, hS1⟩ := HSK.out W1 hB1
        obtain ⟨⟨_, _, _, _, j4, _, _⟩, _⟩ := hS1.cells
        have HD1 := Lib.hid hD1
        have HS1 := Lib.hid hS1
        have hcapI : (2 : Int) ≤ (cap : Int) := by omega
        clear hB1 hD1 hS1 CR HSK
        go_wp2_with fail
        go_loopg [17] 2 (fun g2 j wy => ∃ q : Nat, q + g2 = 2 ∧ ((q = 0 ∧ j = .int .i64 0) ∨ (q = 1 ∧ j = .int .i64 1) ∨ (q = 2 ∧ j = .int .i64 2)) ∧ wy = W1)
        case atStart => exact ⟨0, rfl, .inl ⟨rfl, rfl⟩, rfl⟩
        case round =>
          obtain ⟨q, hqg, hj, rfl⟩ := hrel
          cases gk with
          | zero =>
            obtain rfl : q = 2 := by omega
            rcases hj with ⟨h, rfl⟩ | ⟨h, rfl⟩ | ⟨_, rfl⟩
            · omega
            · omega
            by_cases hle : m ≤ n0
            · have hleI : (m : Int) ≤ (n0 : Int) := by omega
              have HN : Hid (∃ (D' : DS), D' = D ∧ Dx (fun k => k = sl) w db D wr ∧ SlotB wr sl db a b (stf (k + 1)).1 ((stf (k + 1)).2.1 : Nat) (stf (k + 1)).2.2 bk) := Lib.hid ⟨D, rfl, HD1.out, by
                rw [HST.out]; unfold seen; rw [if_neg (by show ¬ n0 < m; omega)]; exact HS1.out⟩
              clear HD1 HS1 HST
              go_wp2_with fail
              go_roundg g
              case measure => omega
              case rel => exact ⟨k + 1, by omega, by first | rfl | simp | go_num, HN⟩
            · have hleI : ¬ (m : Int) ≤ (n0 : Int) := by omega
              have CT := take_calls wr sl db sp0 a b v0 (n0 : Nat) bk HS1.out s (m : Nat) k (by omega)
              have CT := Lib.hid CT
              go_wp2_with fail
              refine CT.out.mono ?_
              rintro e W2 ⟨rfl, h2, h3⟩
              have HN : Hid (∃ (D' : DS), D' = D ∧ Dx (fun k => k = sl) w db D W2 ∧ SlotB W2 sl db a b (stf (k + 1)).1 ((stf (k + 1)).2.1 : Nat) (stf (k + 1)).2.2 bk) := Lib.hid ⟨D, rfl, Dx.only HD1.out h3, by
                rw [HST.out]; unfold seen; rw [if_pos (by show n0 < m; omega)]; exact h2⟩
              clear HD1 HS1 HST CT h2 h3
              go_wp2_with fail
              go_roundg g
              case measure => omega
              case rel => exact ⟨k + 1, by omega, by first | rfl | simp | go_num, HN⟩
          | succ g2 =>
            rcases hj with ⟨hq, rfl⟩ | ⟨hq, rfl⟩ | ⟨hq, rfl⟩
            · go_wp2_with fail
              go_roundg g2
              case measure => omega
              case rel => exact ⟨1, by omega, .inr (.inl ⟨rfl, by first | rfl | simp | go_num⟩), rfl⟩
            · go_wp2_with fail
              go_roundg g2
              case measure => omega
              case rel => exact ⟨2, by omega, .inr (.inr ⟨rfl, by first | rfl | simp | go_num⟩), rfl⟩
            · omega

end Go.Proofs.YtdikmlnpclklnaaDoor.Slot

/-
  SlotLast's disk as data: the value that was put last.
-/
namespace Go.Proofs.YtdikmlnpclklnaaDoor.Slot
open Go Go.RowKit Go.Lib Go.Proofs.YtdikmlnpclklnaaDoor.Law Go.Proofs.YtdikmlnpclklnaaDoor.Disk

/-- Behind n Puts the last of which put this value. -/
def SL (D : DS) (a b : ByteArray) (last : ByteArray) (n : Nat) : Prop :=
  ∃ ca cb ma mb sa sb, SD D 67108864 a b ca cb ∧ szO ca ≤ 60034 ∧ szO cb ≤ 60034 ∧ Has D a ma sa ∧ Has D b mb sb ∧
    ((n = 0 ∧ ma = 0 ∧ mb = 0 ∧ last = ⟨#[]⟩) ∨ (n % 2 = 1 ∧ ma = n ∧ sa = last ∧ mb = n - 1) ∨ (0 < n ∧ n % 2 = 0 ∧ mb = n ∧ sb = last ∧ ma = n - 1))

theorem SL.fresh (a b : ByteArray) : SL (DS.fresh 67108864) a b ⟨#[]⟩ 0 :=
  ⟨none, none, 0, 0, ⟨#[]⟩, ⟨#[]⟩, SD.fresh _ a b, by simp [szO], by simp [szO], .inl ⟨rfl, rfl⟩, .inl ⟨rfl, rfl⟩, .inl ⟨rfl, rfl, rfl, rfl⟩⟩

theorem overL_zero (old f : List Nat) : overL old 0 f = f ++ old.drop f.length := by simp [overL]
theorem over_len (old f : List Nat) (h1 : old.length ≤ 60034) (h2 : f.length ≤ 60034) : (overL old 0 f).length ≤ 60034 := by
  rw [overL_zero, List.length_append, List.length_drop]; omega
theorem Has.keep {D D' : DS} {nm : ByteArray} {m : Nat} {s : ByteArray} (h : Has D nm m s) (hn : D'.now nm = D.now nm) : Has D' nm m s := by
  unfold Has at h ⊢
  rw [hn]
  exact h

/-- One more Put. -/
theorem SL.put {D : DS} {a b last : ByteArray} {n : Nat} (h : SL D a b last n) (hw : WF D) (hab : a ≠ b) (ha : rightB a = true) (hb : rightB b = true) (hn : n < 1000) (s : ByteArray) (hs : s.size ≤ 60000) :
    D.writeN (fileN a b (n % 2)) 0 (frm ((n : Nat) + 1 : Int) s).length = 0 ∧ (D.write (fileN a b (n % 2)) 0 (str (frm ((n : Nat) + 1 : Int) s))).syncN (fileN a b (n % 2)) = 0 ∧
      SL (DS.put D (fileN a b (n % 2)) (frm ((n : Nat) + 1 : Int) s)) a b s (n + 1) ∧ (DS.put D (fileN a b (n % 2)) (frm ((n : Nat) + 1 : Int) s)).made = D.made + 1 := by
  obtain ⟨ca, cb, ma, mb, sa, sb, h1, h2, h3, h4, h5, h6⟩ := h
  have hf := frm_length ((n : Nat) + 1 : Int) s hs
  have hlt := frm_lt ((n : Nat) + 1 : Int) s (by omega) hs
  have ec : ((n : Nat) : Int) + 1 = ((n + 1 : Nat) : Int) := by omega
  by_cases he : n % 2 = 0
  · have ef : fileN a b (n % 2) = a := by unfold fileN; rw [if_pos he]
    rw [ef]
    obtain ⟨q1, q2, q3, q4⟩ := h1.put hw hab ha _ hlt (by omega)
    refine ⟨q1, q2, ⟨_, cb, n + 1, mb, s, sb, q3, ?_, h3, ?_, h5.keep (q3.nowB.trans h1.nowB.symm), .inr (.inl ⟨by omega, rfl, rfl, ?_⟩)⟩, q4⟩
    · exact over_len _ _ (by rw [szO_getD]; exact h2) hf
    · refine .inr ⟨by omega, by omega, hs, (ca.getD []).drop (frm ((n : Nat) + 1 : Int) s).length, ?_⟩
      rw [q3.nowA, overL_zero, ec]
    · rcases h6 with ⟨e1, e2, e3, _⟩ | ⟨e1, _⟩ | ⟨_, _, e3, _⟩
      · omega
      · omega
      · omega
  · have ef : fileN a b (n % 2) = b := by unfold fileN; rw [if_neg he]
    rw [ef]
    obtain ⟨q1, q2, q3, q4⟩ := h1.swap.put hw (Ne.symm hab) hb _ hlt (by omega)
    refine ⟨q1, q2, ⟨ca, _, ma, n + 1, sa, s, q3.swap, h2, ?_, h4.keep (q3.nowB.trans h1.nowA.symm), ?_, .inr (.inr ⟨by omega, by omega, rfl, rfl, ?_⟩)⟩, q4⟩
    · exact over_len _ _ (by rw [szO_getD]; exact h3) hf
    · refine .inr ⟨by omega, by omega, hs, (cb.getD []).drop (frm ((n : Nat) + 1 : Int) s).length, ?_⟩
      rw [q3.nowA, overL_zero, ec]
    · rcases h6 with ⟨e1, _⟩ | ⟨_, e2, _⟩ | ⟨_, e2, _⟩
      · omega
      · omega
      · omega

theorem SL.crash {D : DS} {a b last : ByteArray} {n : Nat} (h : SL D a b last n) (picks : List Int) : SL (D.crash picks) a b last n ∧ (D.crash picks).made = D.made := by
  obtain ⟨ca, cb, ma, mb, sa, sb, h1, h2, h3, h4, h5, h6⟩ := h
  obtain ⟨q1, q2⟩ := h1.crash picks
  exact ⟨⟨ca, cb, ma, mb, sa, sb, q1, h2, h3, h4.keep (q1.nowA.trans h1.nowA.symm), h5.keep (q1.nowB.trans h1.nowB.symm), h6⟩, q2⟩

/-- What a look tells. -/
theorem SL.seen {D : DS} {a b last : ByteArray} {n : Nat} (h : SL D a b last n) : ∃ ma mb sa sb, Has D a ma sa ∧ Has D b mb sb ∧ Slot.seen (Slot.seen (⟨#[]⟩, 0, 0) 0 ma sa) 1 mb sb = (last, n, n % 2) := by
  obtain ⟨ca, cb, ma, mb, sa, sb, h1, h2, h3, h4, h5, h6⟩ := h
  refine ⟨ma, mb, sa, sb, h4, h5, ?_⟩
  rcases h6 with ⟨rfl, rfl, rfl, rfl⟩ | ⟨e1, rfl, rfl, e4⟩ | ⟨e0, e1, rfl, rfl, e4⟩
  · rfl
  · have a1 : Slot.seen (⟨#[]⟩, 0, 0) 0 ma sa = (sa, ma, 1) := by
      unfold Slot.seen
      rw [if_pos (by show 0 < ma; omega)]
    rw [a1]
    unfold Slot.seen
    rw [if_neg (by show ¬ ma < mb; omega), e1]
  · have a1 : (Slot.seen (⟨#[]⟩, 0, 0) 0 ma sa).2.1 < mb := by
      unfold Slot.seen
      by_cases hm : 0 < ma
      · rw [if_pos (by show 0 < ma; exact hm)]; show ma < mb; omega
      · rw [if_neg (by show ¬ 0 < ma; exact hm)]; show 0 < mb; omega
    unfold Slot.seen at a1 ⊢
    rw [if_pos a1, e1]

end Go.Proofs.YtdikmlnpclklnaaDoor.Slot

/-
  Contracts of slot's Open on a disk that has the slot's files, of a Put of a value that is too long, and of a crash.
-/
namespace Go.Proofs.YtdikmlnpclklnaaDoor.Slot
open Go Go.RowKit Go.Lib Go.Proofs.YtdikmlnpclklnaaDoor.Law Go.Proofs.YtdikmlnpclklnaaDoor.Disk

def boxO (W : World) (db : Nat) (s : ByteArray) : World := W.alloc (.cells #[.pointer (some ⟨db, 0, none⟩), .string (nameA s), .string (nameB s), .string ⟨#[]⟩, .int .i64 0, .int .i64 0, .bool false] 49)

set_option maxRecDepth 100000 in
set_option maxHeartbeats 2000000 in
theorem open_calls (w W : World) (db : Nat) (D : DS) (hD : Dk w db D W) (hT : Crc.Tab w) (s : ByteArray) (h : rightS s = true) (ma mb : Nat) (sa sb : ByteArray) (h0 : Has D (nameA s) ma sa) (h1 : Has D (nameB s) mb sb) (last : ByteArray) (n sp : Nat) (hseen : seen (seen (⟨#[]⟩, 0, 0) 0 ma sa) 1 mb sb = (last, n, sp)) :
    Calls Tryd.prog 7 #[.pointer (some ⟨db, 0, none⟩), .string s] W (OpenO w db D s last (n : Nat) sp) := by
  have hsz := right_le h
  have CR := rightName_calls s W (by omega)
  rw [h] at CR
  have CR := Lib.hid CR
  have HMK : Hid (∀ W1, Below W.heap.size W W1 → Calls Tryd.prog 16 #[.pointer (some ⟨W1.heap.size, 0, none⟩)] (boxO W1 db s) fun e W' => e = .returned (.tuple #[]) ∧ Hid (OpenO w db D s last (n : Nat) sp (.returned (.tuple #[.pointer (some ⟨W1.heap.size, 0, none⟩), .int .i64 0])) W')) := Lib.hid fun W1 hB1 => by
    have hB2 : Below W1.heap.size W1 (boxO W1 db s) := (Below.refl _ _).alloc (Nat.le_refl _) _
    have hsz2 : (boxO W1 db s).heap.size = W1.heap.size + 1 := by unfold boxO; simp
    have hx : SlotB (boxO W1 db s) W1.heap.size db (nameA s) (nameB s) ⟨#[]⟩ 0 0 false := by
      show (boxO W1 db s).heap[W1.heap.size]? = _
      unfold boxO
      simp only [World.alloc, Array.getElem?_push_size]
      rfl
    have hd1 := (Dx.of hD).below hB1
    have hd := hd1.add hB2
    have hd2 : Dx (fun k => k = W1.heap.size) w db D (boxO W1 db s) := by
      obtain ⟨O, e1, e2, e3, e4, e5⟩ := hd
      exact ⟨O, e1, e2, e3, e4, fun k hk => e5 k (.inr (by omega))⟩
    have ha : (nameA s).size ≤ 14 := by show (s ++ _).size ≤ _; rw [ByteArray.size_append]; have : (⟨#[45, 97]⟩ : ByteArray).size = 2 := rfl; omega
    have hb : (nameB s).size ≤ 14 := by show (s ++ _).size ≤ _; rw [ByteArray.size_append]; have : (⟨#[45, 98]⟩ : ByteArray).size = 2 := rfl; omega
    refine (look_calls w (boxO W1 db s) W1.heap.size db D _ _ (⟨#[]⟩, 0, 0) false hd2 hx hT ha hb ma mb sa sb h0 h1).mono ?_
    rintro e W' ⟨rfl, e1, e2⟩
    rw [hseen] at e2
    exact ⟨rfl, Lib.hid ⟨W1.heap.size, rfl, e1, e2⟩⟩
  unfold boxO at HMK
  have hA : s ++ ⟨#[45, 97]⟩ = nameA s := rfl
  have hBn : s ++ ⟨#[45, 98]⟩ = nameB s := rfl
  have q1 : (s.size : Int) + 2 ≤ 9223372036854775807 := by omega
  have q2 : ¬ 9223372036854775807 < (s.size : Int) + 2 := by omega
  have q3 : s.size + 2 ≤ 9223372036854775807 := by omega
  have q4 : ¬ (((s.size + 2 : Nat) : Int) > IntKind.i64.max) := by simp [IntKind.max, IntKind.signed, IntKind.bits]; omega
  clear hD hT h0 h1 h hsz hseen
  go_enter Tryd.func7, Tryd.ntmps7
  go_wp2_with fail
  refine CR.out.mono ?_
  rintro e W1 ⟨rfl, hB1⟩
  have HM := Lib.hid (HMK.out W1 hB1)
  clear hB1 HMK CR
  go_wp2_with fail
  refine HM.out.mono ?_
  rintro e W2 ⟨rfl, HF⟩
  clear HM
  go_wp2_with fail
  go_ret2
  exact HF.out

set_option maxRecDepth 100000 in
set_option maxHeartbeats 2000000 in
theorem put_long (W : World) (sl db : Nat) (a b v : ByteArray) (n : Int) (sp : Nat) (hS : SlotB W sl db a b v n sp false) (s : ByteArray) (hs : 60000 < s.size) (hs63 : s.size ≤ 9223372036854775807) :
    Calls Tryd.prog 9 #[.pointer (some ⟨sl, 0, none⟩), .string s] W fun e W' => e = .returned (.int .i64 2) ∧ W' = W := by
  obtain ⟨⟨_, _, _, _, k4, _, k6⟩, _⟩ := hS.cells
  have hsI : (60000 : Int) < (s.size : Int) := by omega
  clear hS hs
  go_enter Tryd.func9, Tryd.ntmps9
  go_wp2_with fail
  go_ret
  exact ⟨rfl, rfl⟩

/-- A crash, with picks that lay before the law. -/
theorem crash_dk {Fr : Nat → Prop} {w W : World} {db : Nat} {D : DS} (h : Dx Fr w db D W) (hmade : D.made ≤ 4294967296) (pv : Value) (picks : List Int) (hp : Ints (fun b => b < w.heap.size) W pv picks) :
    Calls Tryd.prog 10 #[.pointer (some ⟨db, 0, none⟩), pv] W fun e W' => e = .returned (.tuple #[]) ∧ Dk w db (D.crash picks) W' := by
  obtain ⟨O, h1, h2, h3, h4, h5⟩ := h
  have hp2 : Ints (fun b => b < W.heap.size ∧ O b = none) W pv picks := by
    obtain ⟨A, cap, h6, h7, h8⟩ := hp
    refine ⟨A, cap, h6, h7, fun hl => ?_⟩
    obtain ⟨b, off, h9, h10, h11⟩ := h8 hl
    exact ⟨b, off, h9, ⟨Nat.lt_of_lt_of_le h10 h3.size, h2 b h10⟩, h11⟩
  refine (crash_calls W O db D h1 h4 hmade pv picks hp2).mono ?_
  rintro e W' ⟨rfl, O', h6, h7⟩
  obtain ⟨h8, h9⟩ := Dk.past h2 h3 h7
  exact ⟨rfl, O', h6, h8, h9, h4.crash picks⟩

end Go.Proofs.YtdikmlnpclklnaaDoor.Slot

/-
  The walk of the law SlotLast: whatever the values and the picks, it returns true and nothing that lay has turned.
-/
namespace Go.Proofs.YtdikmlnpclklnaaDoor.Slot
open Go Go.RowKit Go.Lib Go.Proofs.YtdikmlnpclklnaaDoor.Law Go.Proofs.YtdikmlnpclklnaaDoor.Disk

/-- The slice value reads as these texts. -/
def Texts (n₀ : Nat) (W : World) (v : Value) (l : List ByteArray) : Prop :=
  ∃ A cap, v = .slice A l.length cap ∧ l.length ≤ cap ∧ (∀ s ∈ l, s.size ≤ 9223372036854775807) ∧ (0 < l.length → ∃ b off, A = some ⟨b, off, none⟩ ∧ b < n₀ ∧ ∀ (j : Nat) (s : ByteArray), l[j]? = some s → W.cell? ⟨b, off + j, none⟩ = some (.string s))

def nameS : ByteArray := ⟨#[115]⟩
theorem nameS_right : rightS nameS = true := by decide +kernel
theorem nameS_A : rightB (nameA nameS) = true := by decide +kernel
theorem nameS_B : rightB (nameB nameS) = true := by decide +kernel
theorem nameS_ne : nameA nameS ≠ nameB nameS := by decide +kernel
theorem nameS_size : (nameA nameS).size ≤ 14 ∧ (nameB nameS).size ≤ 14 := by decide +kernel

/-- What holds at the head of each round. -/
def Round (w : World) (db sl : Nat) (last : ByteArray) (n i : Nat) (W : World) : Prop :=
  ∃ D, Dx (fun k => k = sl) w db D W ∧ SlotB W sl db (nameA nameS) (nameB nameS) last (n : Nat) (n % 2) false ∧ SL D (nameA nameS) (nameB nameS) last n ∧ n ≤ i ∧ D.made ≤ i

theorem round_put {w : World} (hT : Crc.Tab w) {db sl : Nat} {last : ByteArray} {n i : Nat} {W : World} (h : Round w db sl last n i W) (hi : i < 20) (s : ByteArray) (hs63 : s.size ≤ 9223372036854775807) :
    Calls Tryd.prog 9 #[.pointer (some ⟨sl, 0, none⟩), .string s] W fun e W' => (e = .returned (.int .i64 0) ∧ Hid (Round w db sl s (n + 1) (i + 1) W')) ∨ (e = .returned (.int .i64 2) ∧ Hid (Round w db sl last n (i + 1) W')) := by
  obtain ⟨D, h1, h2, h3, h4, h5⟩ := h
  by_cases hs : s.size ≤ 60000
  · obtain ⟨q1, q2, q3, q4⟩ := h3.put (Dx.wf h1) nameS_ne nameS_A nameS_B (by omega) s hs
    refine (put_calls w W sl db D _ _ last (n : Nat) (n % 2) (by omega) h1 h2 (hT.below h1.low) (by omega) nameS_size.1 nameS_size.2 s hs (by omega) q1 q2).mono ?_
    rintro e W' ⟨rfl, e1, e2⟩
    refine .inl ⟨rfl, Lib.hid ⟨_, e1, ?_, q3, by omega, by rw [q4]; omega⟩⟩
    have e3 : 1 - n % 2 = (n + 1) % 2 := by omega
    have e4 : ((n : Nat) : Int) + 1 = ((n + 1 : Nat) : Int) := by omega
    rw [e3, e4] at e2
    exact e2
  · refine (put_long W sl db _ _ last (n : Nat) (n % 2) h2 s (by omega) hs63).mono ?_
    rintro e W' ⟨rfl, rfl⟩
    exact .inr ⟨rfl, Lib.hid ⟨D, h1, h2, h3, by omega, by omega⟩⟩

theorem round_again {w : World} (hT : Crc.Tab w) {db sl : Nat} {last : ByteArray} {n i : Nat} {W : World} (h : Round w db sl last n i W) (hi : i ≤ 20) (pv : Value) (picks : List Int) (hp : Ints (fun b => b < w.heap.size) w pv picks) :
    Calls Tryd.prog 10 #[.pointer (some ⟨db, 0, none⟩), pv] W fun e W' => e = .returned (.tuple #[]) ∧ Hid (Calls Tryd.prog 7 #[.pointer (some ⟨db, 0, none⟩), .string ⟨#[115]⟩] W' fun e2 W2 => ∃ sl', e2 = .returned (.tuple #[.pointer (some ⟨sl', 0, none⟩), .int .i64 0]) ∧ Hid (Round w db sl' last n i W2)) := by
  obtain ⟨D, h1, h2, h3, h4, h5⟩ := h
  have hp2 : Ints (fun b => b < w.heap.size) W pv picks := hp.at fun b hb => h1.low.block b hb
  refine (crash_dk h1 (by omega) pv picks hp2).mono ?_
  rintro e W' ⟨rfl, h6⟩
  obtain ⟨q1, q2⟩ := h3.crash picks
  obtain ⟨ma, mb, sa, sb, q3, q4, q5⟩ := q1.seen
  refine ⟨rfl, Lib.hid ((open_calls w W' db _ h6 hT nameS nameS_right ma mb sa sb q3 q4 last n (n % 2) q5).mono ?_)⟩
  rintro e2 W2 ⟨sl', rfl, e3, e4⟩
  exact ⟨sl', rfl, Lib.hid ⟨_, e3, e4, q1, h4, by rw [q2]; exact h5⟩⟩

theorem round_get {w : World} {db sl : Nat} {last : ByteArray} {n i : Nat} {W : World} (h : Round w db sl last n i W) :
    Calls Tryd.prog 8 #[.pointer (some ⟨sl, 0, none⟩)] W fun e W' => e = .returned (.tuple #[.string last, .int .i64 (n : Nat)]) ∧ Hid (Round w db sl last n i W') := by
  obtain ⟨D, h1, h2, h3, h4, h5⟩ := h
  refine (get_calls W sl db _ _ _ last (n : Nat) false h2).mono ?_
  rintro e W' ⟨rfl, hB⟩
  exact ⟨rfl, Lib.hid ⟨D, h1.below hB, h2.below hB, h3, h4, h5⟩⟩

set_option maxRecDepth 100000 in
set_option maxHeartbeats 8000000 in
theorem slotLast_law (vv : Value) (l : List ByteArray) (hl : l.length ≤ maxLen) (pv : Value) (picks : List Int) (w : World) (hT : Crc.Tab w) (hI : Texts w.heap.size w vv l) (hP : Ints (fun b => b < w.heap.size) w pv picks) :
    Calls Tryd.prog 4 #[vv, pv] w fun e W => e = .returned (.bool true) ∧ Below w.heap.size w W := by
  simp only [maxLen] at hl
  obtain ⟨A, cap, rfl, hlc, hsz, hat⟩ := hI
  obtain ⟨PA, pc, rfl, _⟩ := id hP
  obtain ⟨len, hlen⟩ : ∃ n, l.length = n := ⟨_, rfl⟩
  obtain ⟨pl, hpl⟩ : ∃ n, picks.length = n := ⟨_, rfl⟩
  have HL := Lib.hid hlen
  have HSZ := Lib.hid hsz
  rw [hlen] at hl hlc hat ⊢
  rw [hpl] at hP ⊢
  have HAT := Lib.hid hat
  have HP := Lib.hid hP
  have HT := Lib.hid hT
  have CK := Lib.hid (known_law w hT)
  have CO : Hid (∀ db W1, Dk w db (DS.fresh 67108864) W1 → Calls Tryd.prog 7 #[.pointer (some ⟨db, 0, none⟩), .string ⟨#[115]⟩] W1 fun e2 W2 => ∃ sl', e2 = .returned (.tuple #[.pointer (some ⟨sl', 0, none⟩), .int .i64 0]) ∧ Hid (Round w db sl' ⟨#[]⟩ 0 0 W2)) := Lib.hid fun db W1 h => by
    refine (open_none w W1 db _ h (hT.below h.low) nameS nameS_right rfl rfl).mono ?_
    rintro e2 W2 ⟨sl', rfl, e3, e4⟩
    exact ⟨sl', rfl, Lib.hid ⟨_, e3, e4, SL.fresh _ _, Nat.le_refl _, Nat.le_refl _⟩⟩
  clear hlen hsz hat hP hT hpl
  go_enter Tryd.func4, Tryd.ntmps4
  go_wp2_with fail
  refine CK.out.mono ?_
  rintro e w1 ⟨rfl, hB1⟩
  have CN := Lib.hid (new_dk 67108864 (by decide) w w1 hB1)
  clear hB1 CK
  go_wp2_with fail
  refine CN.out.mono ?_
  rintro e w2 ⟨db, rfl, h2⟩
  have CO2 := Lib.hid (CO.out db w2 h2)
  clear h2 CN CO
  go_wp2_with fail
  refine CO2.out.mono ?_
  rintro e w3 ⟨sl, rfl, HR⟩
  clear CO2
  go_wp2_with fail
  go_loopw [7, 9, 10, 11] (fun s7 s9 s10 i wr => ∃ (k sl n : Nat) (last : ByteArray), i = .int .i64 k ∧ k ≤ len ∧ k ≤ 20 ∧ s7 = .pointer (some ⟨sl, 0, none⟩) ∧ s9 = .string last ∧ s10 = .int .i64 n ∧ n ≤ k ∧ Hid (Round w db sl last n k wr)) (fun _ _ _ i _ => 20 - (intOf i).toNat)
  case atStart => exact ⟨0, sl, 0, ⟨#[]⟩, rfl, Nat.zero_le _, Nat.zero_le _, rfl, rfl, rfl, Nat.le_refl _, HR⟩
  case round =>
    obtain ⟨k, sl, n, last, rfl, hkl, hk20, rfl, rfl, rfl, hnk, HRD⟩ := hrel
    by_cases hlt : k < len ∧ k < 20
    · obtain ⟨hlt1, hlt2⟩ := hlt
      obtain ⟨s, hs⟩ : ∃ s, l[k]? = some s := ⟨_, List.getElem?_eq_getElem (by rw [HL.out]; exact hlt1)⟩
      obtain ⟨b, off, rfl, hbw, hat⟩ := HAT.out (by omega)
      have hc0 := hat k s hs
      have hs63 := HSZ.out s (List.mem_of_getElem? hs)
      have hlow : Below w.heap.size w wr := by obtain ⟨D, h1, _⟩ := HRD.out; exact h1.low
      have hck := (hlow.cell (p := ⟨b, off + k, none⟩) hbw).trans hc0
      have hbr : b < wr.heap.size := Nat.lt_of_lt_of_le hbw hlow.size
      have hkI : (k : Int) < (len : Int) := by omega
      have hkI2 : (k : Int) < 20 := by omega
      have hnI : (n : Int) ≤ 20 := by omega
      have CP := Lib.hid (round_put HT.out HRD.out hlt2 s hs63)
      have hcell2 : Hid (∀ W', Below w.heap.size w W' → W'.cell? ⟨b, off + k, none⟩ = some (.string s) ∧ b < W'.heap.size) := Lib.hid fun W' hB => ⟨(hB.cell (p := ⟨b, off + k, none⟩) hbw).trans hc0, Nat.lt_of_lt_of_le hbw hB.size⟩
      obtain ⟨r, hr3, hmod⟩ : ∃ r : Nat, r < 3 ∧ (k : Int).tmod 3 = (r : Int) := ⟨k % 3, Nat.mod_lt _ (by decide), by rw [Int.tmod_eq_emod_of_nonneg (by omega)]; omega⟩
      have HFIN : Hid (∀ W' sl' last' n', Round w db sl' last' n' (k + 1) W' → Below w.heap.size w W') := Lib.hid fun W' sl' last' n' h => by obtain ⟨D, h1, _⟩ := h; exact h1.low
      clear hc0 hs63 hlow hs hat HRD HR
      go_wp2_with fail
      refine CP.out.mono ?_
      rintro e w4 (⟨rfl, H4⟩ | ⟨rfl, H4⟩)
      · have hl4 := HFIN.out _ _ _ _ H4.out
        obtain ⟨hck4, hbr4⟩ := hcell2.out w4 hl4
        have CC := Lib.hid (round_again HT.out H4.out (by omega) _ picks HP.out)
        have CG := Lib.hid (round_get H4.out)
        clear hl4 CP
        by_cases hr2 : r = 2
        · subst hr2
          go_wp2_with fail
          refine CC.out.mono ?_
          rintro e w5 ⟨rfl, H5⟩
          clear CC CG H4
          go_wp2_with fail
          refine H5.out.mono ?_
          rintro e w6 ⟨sl', rfl, H6⟩
          have CG := Lib.hid (round_get H6.out)
          clear H5
          go_wp2_with fail
          refine CG.out.mono ?_
          rintro e w7 ⟨rfl, H7⟩
          have hc : (s.toList == s.toList) = true := by simp
          clear CG H6
          go_wp2_with fail
          go_roundw
          case rel => exact ⟨k + 1, sl', n + 1, s, by go_num, by omega, by omega, rfl, rfl, by go_num, by omega, H7⟩
          case measure => simp [intOf]; omega
        · have hrI : ((r : Int) == 2) = false := by rw [beq_eq_false_iff_ne]; omega
          clear CC
          go_wp2_with fail
          refine CG.out.mono ?_
          rintro e w7 ⟨rfl, H7⟩
          have hc : (s.toList == s.toList) = true := by simp
          clear CG H4
          go_wp2_with fail
          go_roundw
          case rel => exact ⟨k + 1, sl, n + 1, s, by go_num, by omega, by omega, rfl, rfl, by go_num, by omega, H7⟩
          case measure => simp [intOf]; omega
      · have CC := Lib.hid (round_again HT.out H4.out (by omega) _ picks HP.out)
        have CG := Lib.hid (round_get H4.out)
        have hc : (last.toList == last.toList) = true := by simp
        clear CP
        by_cases hr2 : r = 2
        · subst hr2
          go_wp2_with fail
          refine CC.out.mono ?_
          rintro e w5 ⟨rfl, H5⟩
          clear CC CG H4
          go_wp2_with fail
          refine H5.out.mono ?_
          rintro e w6 ⟨sl', rfl, H6⟩
          have CG := Lib.hid (round_get H6.out)
          clear H5
          go_wp2_with fail
          refine CG.out.mono ?_
          rintro e w7 ⟨rfl, H7⟩
          clear CG H6
          go_wp2_with fail
          go_roundw
          case rel => exact ⟨k + 1, sl', n, last, by go_num, by omega, by omega, rfl, rfl, rfl, by omega, H7⟩
          case measure => simp [intOf]; omega
        · have hrI : ((r : Int) == 2) = false := by rw [beq_eq_false_iff_ne]; omega
          clear CC
          go_wp2_with fail
          refine CG.out.mono ?_
          rintro e w7 ⟨rfl, H7⟩
          clear CG H4
          go_wp2_with fail
          go_roundw
          case rel => exact ⟨k + 1, sl, n, last, by go_num, by omega, by omega, rfl, rfl, rfl, by omega, H7⟩
          case measure => simp [intOf]; omega
    · have hlow : Below w.heap.size w wr := by obtain ⟨D, h1, _⟩ := HRD.out; exact h1.low
      have hbr : ¬ (k : Int) < (len : Int) ∨ ((k : Int) < (len : Int) ∧ ¬ (k : Int) < 20) := by omega
      have HLOW := Lib.hid hlow
      clear hlow hlt HRD HR
      rcases hbr with hx | ⟨hx, hy⟩
      all_goals
        go_wp2_with fail
        go_ret
        exact ⟨rfl, HLOW.out⟩

end Go.Proofs.YtdikmlnpclklnaaDoor.Slot
