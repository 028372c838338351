/-
  Put together out of texts of one chain: what they hold stands ahead of each.
-/
import Derived.Test.YtdikmlnpclklnaaGreatDoorGSlotScripts16
import Derived.Test.YtdikmlnpclklnaaGreatDoorGSlotScripts17
import Derived.Test.YtdikmlnpclklnaaGreatDoorGSlotScripts10
import Derived.Test.YtdikmlnpclklnaaGreatDoorGSlotScripts22
/-
  SlotScripts' disk as data: the value that was put last, whatever the room; what a failed Put, a limit and a crash leave.
-/
namespace Go.Proofs.YtdikmlnpclklnaaGreatDoor.Slot
open Go Go.RowKit Go.Lib Go.Proofs.YtdikmlnpclklnaaGreatDoor.Law Go.Proofs.YtdikmlnpclklnaaGreatDoor.Disk

theorem Dx.fail {Fr : Nat → Prop} {w W : World} {db : Nat} {D : DS} (h : Dx Fr w db D W) (b : Bool) :
    Calls Tryz.prog 29 #[.pointer (some ⟨db, 0, none⟩), .bool b] W fun e W' => e = .returned (.tuple #[]) ∧ Dx Fr w db (D.fail b) W' ∧ SameOn Fr W W' := by
  obtain ⟨O, h1, h2, h3, h4, h5⟩ := h
  refine (failD_calls W O db D h1 b).mono ?_
  rintro e W' ⟨rfl, h6, h7⟩
  exact ⟨rfl, Dx.past h2 h3 h5 h7 h6 (h4.fail b)⟩
theorem Dx.limit {Fr : Nat → Prop} {w W : World} {db : Nat} {D : DS} (h : Dx Fr w db D W) (r : Int) :
    Calls Tryz.prog 32 #[.pointer (some ⟨db, 0, none⟩), .int .i64 r] W fun e W' => e = .returned (.int .i64 (limitN r : Nat)) ∧ Dx Fr w db (D.limit r) W' ∧ SameOn Fr W W' := by
  obtain ⟨O, h1, h2, h3, h4, h5⟩ := h
  refine (limitD_calls W O db D h1 r).mono ?_
  rintro e W' ⟨rfl, h6, h7⟩
  exact ⟨rfl, Dx.past h2 h3 h5 h7 h6 (h4.limit r)⟩

/-- Behind n Puts the last of which put this value; of any room. -/
def SG (D : DS) (a b : ByteArray) (last : ByteArray) (n : Nat) : Prop :=
  ∃ room ca cb ma mb sa sb, SD D room a b ca cb ∧ szO ca ≤ 60034 ∧ szO cb ≤ 60034 ∧ Has D a ma sa ∧ Has D b mb sb ∧
    ((n = 0 ∧ ma = 0 ∧ mb = 0 ∧ last = ⟨#[]⟩) ∨ (n % 2 = 1 ∧ ma = n ∧ sa = last ∧ mb = n - 1) ∨ (0 < n ∧ n % 2 = 0 ∧ mb = n ∧ sb = last ∧ ma = n - 1))
theorem SG.fresh (room : Nat) (a b : ByteArray) : SG (DS.fresh room) a b ⟨#[]⟩ 0 :=
  ⟨room, none, none, 0, 0, ⟨#[]⟩, ⟨#[]⟩, SD.fresh _ a b, by simp [szO], by simp [szO], .inl ⟨rfl, rfl⟩, .inl ⟨rfl, rfl⟩, .inl ⟨rfl, rfl, rfl, rfl⟩⟩

/-- A Put into the first file, that the disk takes. -/
theorem SD.put0 {D : DS} {room : Nat} {a b : ByteArray} {ca cb : Option (List Nat)} (h : SD D room a b ca cb) (hab : a ≠ b) (ha : rightB a = true) (f : List Nat) (hf : ∀ x ∈ f, x < 256) (h0 : D.writeN a 0 f.length = 0) :
    (D.write a 0 (str f)).syncN a = 0 ∧ SD (DS.put D a f) room a b (some (overL (ca.getD []) 0 f)) cb ∧ (DS.put D a f).made = D.made + 1 := by
  have e1 : D.write a 0 (str f) = D.wrote a 0 (str f) := by
    unfold DS.write
    rw [str_size, if_pos h0]; rfl
  have hin : a ∈ (D.wrote a 0 (str f)).names := by
    show a ∈ (if a ∈ D.names then D.names else D.names ++ [a])
    split
    · assumption
    · simp
  have hs : (D.wrote a 0 (str f)).syncN a = 0 := by
    unfold DS.syncN
    have : (D.wrote a 0 (str f)).fails = false := h.fails
    rw [this, refN_good ha, if_neg (by simp), if_pos hin]
  have e2 : DS.put D a f = (D.wrote a 0 (str f)).syncD a := by
    unfold DS.put
    rw [e1]
    unfold DS.sync
    rw [if_pos hs]
  have hnow : (D.wrote a 0 (str f)).now a = some (overL (ca.getD []) 0 f) := by
    show upd D.now a _ a = _
    rw [upd_same, h.nowA, bytesS_str hf]
  refine ⟨by rw [e1]; exact hs, ?_, by rw [e2]; rfl⟩
  rw [e2]
  refine ⟨h.fails, h.room, ?_, hnow, ?_, fun x => ?_, fun x h1 h2 => ?_⟩
  · show others a (D.chs ++ [(a, _)]) = []
    rw [h.chs]
    simp [others]
  · show upd D.now a _ b = cb
    rw [upd_other _ _ (Ne.symm hab), h.nowB]
  · show upd D.safe a ((D.wrote a 0 (str f)).now a) x = upd D.now a _ x
    by_cases hx : x = a
    · subst hx
      rw [upd_same]
      rfl
    · rw [upd_other _ _ hx, upd_other _ _ hx, h.safe]
  · show upd D.now a _ x = none
    rw [upd_other _ _ h1]
    exact h.only x h1 h2
theorem SD.writeN {D : DS} {room : Nat} {a b : ByteArray} {ca cb : Option (List Nat)} (h : SD D room a b ca cb) (ha : rightB a = true) (L : Nat) : D.writeN a 0 L = 0 ∨ D.writeN a 0 L = 6 := by
  unfold DS.writeN
  rw [h.fails, refN_good ha, if_neg (by simp), if_neg (by omega)]
  split
  · exact .inr rfl
  · exact .inl rfl

/-- One more Put: the disk takes it, or is full. -/
theorem SG.put {D : DS} {a b last : ByteArray} {n : Nat} (h : SG D a b last n) (hab : a ≠ b) (ha : rightB a = true) (hb : rightB b = true) (hn : n < 1000) (s : ByteArray) (hs : s.size ≤ 60000) :
    D.writeN (fileN a b (n % 2)) 0 (frm ((n : Nat) + 1 : Int) s).length = 6 ∨ (D.writeN (fileN a b (n % 2)) 0 (frm ((n : Nat) + 1 : Int) s).length = 0 ∧ (D.write (fileN a b (n % 2)) 0 (str (frm ((n : Nat) + 1 : Int) s))).syncN (fileN a b (n % 2)) = 0 ∧
      SG (DS.put D (fileN a b (n % 2)) (frm ((n : Nat) + 1 : Int) s)) a b s (n + 1) ∧ (DS.put D (fileN a b (n % 2)) (frm ((n : Nat) + 1 : Int) s)).made = D.made + 1) := by
  obtain ⟨room, ca, cb, ma, mb, sa, sb, h1, h2, h3, h4, h5, h6⟩ := h
  have hf := frm_length ((n : Nat) + 1 : Int) s hs
  have hlt := frm_lt ((n : Nat) + 1 : Int) s (by omega) hs
  have ec : ((n : Nat) : Int) + 1 = ((n + 1 : Nat) : Int) := by omega
  by_cases he : n % 2 = 0
  · have ef : fileN a b (n % 2) = a := by unfold fileN; rw [if_pos he]
    rw [ef]
    rcases h1.writeN ha (frm ((n : Nat) + 1 : Int) s).length with h0 | h0
    · right
      obtain ⟨q2, q3, q4⟩ := h1.put0 hab ha _ hlt h0
      refine ⟨h0, q2, ⟨room, _, cb, n + 1, mb, s, sb, q3, ?_, h3, ?_, h5.keep (q3.nowB.trans h1.nowB.symm), .inr (.inl ⟨by omega, rfl, rfl, ?_⟩)⟩, q4⟩
      · exact over_len _ _ (by rw [szO_getD]; exact h2) hf
      · refine .inr ⟨by omega, by omega, hs, (ca.getD []).drop (frm ((n : Nat) + 1 : Int) s).length, ?_⟩
        rw [q3.nowA, overL_zero, ec]
      · rcases h6 with ⟨e1, e2, e3, _⟩ | ⟨e1, _⟩ | ⟨_, _, e3, _⟩ <;> omega
    · exact .inl h0
  · have ef : fileN a b (n % 2) = b := by unfold fileN; rw [if_neg he]
    rw [ef]
    rcases h1.swap.writeN hb (frm ((n : Nat) + 1 : Int) s).length with h0 | h0
    · right
      obtain ⟨q2, q3, q4⟩ := h1.swap.put0 (Ne.symm hab) hb _ hlt h0
      refine ⟨h0, q2, ⟨room, ca, _, ma, n + 1, sa, s, q3.swap, h2, ?_, h4.keep (q3.nowB.trans h1.nowA.symm), ?_, .inr (.inr ⟨by omega, by omega, rfl, rfl, ?_⟩)⟩, q4⟩
      · exact over_len _ _ (by rw [szO_getD]; exact h3) hf
      · refine .inr ⟨by omega, by omega, hs, (cb.getD []).drop (frm ((n : Nat) + 1 : Int) s).length, ?_⟩
        rw [q3.nowA, overL_zero, ec]
      · rcases h6 with ⟨e1, _⟩ | ⟨_, e2, _⟩ | ⟨_, e2, _⟩ <;> omega
    · exact .inl h0

theorem SG.crash {D : DS} {a b last : ByteArray} {n : Nat} (h : SG D a b last n) (picks : List Int) : SG (D.crash picks) a b last n ∧ (D.crash picks).made = D.made := by
  obtain ⟨room, ca, cb, ma, mb, sa, sb, h1, h2, h3, h4, h5, h6⟩ := h
  obtain ⟨q1, q2⟩ := h1.crash picks
  exact ⟨⟨room, ca, cb, ma, mb, sa, sb, q1, h2, h3, h4.keep (q1.nowA.trans h1.nowA.symm), h5.keep (q1.nowB.trans h1.nowB.symm), h6⟩, q2⟩
/-- The same files and no fault: it is the same. -/
theorem SG.alike {D D' : DS} {a b last : ByteArray} {n : Nat} (h : SG D a b last n) (hf : D'.fails = false) (hn : D'.now = D.now) (hs : D'.safe = D.safe) (hc : D'.chs = D.chs) : SG D' a b last n := by
  obtain ⟨room, ca, cb, ma, mb, sa, sb, h1, h2, h3, h4, h5, h6⟩ := h
  refine ⟨D'.room, ca, cb, ma, mb, sa, sb, ⟨hf, rfl, hc.trans h1.chs, ?_, ?_, fun x => ?_, fun x e1 e2 => ?_⟩, h2, h3, h4.keep (by rw [hn]), h5.keep (by rw [hn]), h6⟩
  · rw [hn]; exact h1.nowA
  · rw [hn]; exact h1.nowB
  · rw [hs, hn]; exact h1.safe x
  · rw [hn]; exact h1.only x e1 e2
theorem SG.fails {D : DS} {a b last : ByteArray} {n : Nat} (h : SG D a b last n) : D.fails = false := by
  obtain ⟨room, ca, cb, ma, mb, sa, sb, h1, _⟩ := h
  exact h1.fails
theorem SG.failed {D : DS} {a b last : ByteArray} {n : Nat} (h : SG D a b last n) (t : Bool) : SG ((D.fail t).fail false) a b last n := h.alike rfl rfl rfl rfl
theorem SG.limit {D : DS} {a b last : ByteArray} {n : Nat} (h : SG D a b last n) (r : Int) : SG (D.limit r) a b last n := by
  unfold DS.limit
  split
  · exact h.alike h.fails rfl rfl rfl
  · exact h
theorem failed_write (D : DS) (s : ByteArray) (L : Nat) : (D.fail true).writeN s 0 L = 16 := by
  unfold DS.writeN
  have : refN (D.fail true).fails s 0 = 16 := rfl
  rw [this, if_pos (by simp)]

/-- What a look tells. -/
theorem SG.seen {D : DS} {a b last : ByteArray} {n : Nat} (h : SG D a b last n) : ∃ ma mb sa sb, Has D a ma sa ∧ Has D b mb sb ∧ Slot.seen (Slot.seen (⟨#[]⟩, 0, 0) 0 ma sa) 1 mb sb = (last, n, n % 2) := by
  obtain ⟨room, ca, cb, ma, mb, sa, sb, h1, h2, h3, h4, h5, h6⟩ := h
  refine ⟨ma, mb, sa, sb, h4, h5, ?_⟩
  rcases h6 with ⟨rfl, rfl, rfl, rfl⟩ | ⟨e1, rfl, rfl, e4⟩ | ⟨e0, e1, rfl, rfl, e4⟩
  · rfl
  · have a1 : Slot.seen (⟨#[]⟩, 0, 0) 0 ma sa = (sa, ma, 1) := by
      unfold Slot.seen
      rw [if_pos (by show 0 < ma; omega)]
    rw [a1]
    unfold Slot.seen
    rw [if_neg (by show ¬ ma < mb; omega), e1]
  · have a1 : (Slot.seen (⟨#[]⟩, 0, 0) 0 ma sa).2.1 < mb := by
      unfold Slot.seen
      by_cases hm : 0 < ma
      · rw [if_pos (by show 0 < ma; exact hm)]; show ma < mb; omega
      · rw [if_neg (by show ¬ 0 < ma; exact hm)]; show 0 < mb; omega
    unfold Slot.seen at a1 ⊢
    rw [if_pos a1, e1]

/-- What the document's answer tells of the two files. -/
theorem SG.value {D : DS} {a b last : ByteArray} {n : Nat} (h : SG D a b last n) : ∃ ma mb sa sb, HasC ((D.now a).getD []) ma sa ∧ HasC ((D.now b).getD []) mb sb ∧ (D.now a = none ∨ D.now a ≠ none) ∧ (valueN ma mb sa sb).1 = last ∧ (valueN ma mb sa sb).2.1 = n := by
  obtain ⟨room, ca, cb, ma, mb, sa, sb, h1, h2, h3, h4, h5, h6⟩ := h
  have conv : ∀ (nm : ByteArray) (m : Nat) (s : ByteArray), Has D nm m s → HasC ((D.now nm).getD []) m (if m = 0 then ⟨#[]⟩ else s) := fun nm m s h => by
    rcases h with ⟨rfl, h⟩ | ⟨e1, e2, e3, rest, e4⟩
    · exact .inl ⟨rfl, by simp, by rw [h]; rfl⟩
    · right
      rw [if_neg (by omega)]
      exact ⟨e1, e2, e3, rest, by rw [e4]; rfl⟩
  refine ⟨ma, mb, _, _, conv a ma sa h4, conv b mb sb h5, Classical.em _, ?_⟩
  unfold valueN
  rcases h6 with ⟨rfl, rfl, rfl, rfl⟩ | ⟨e1, rfl, rfl, e4⟩ | ⟨e0, e1, rfl, rfl, e4⟩
  · exact ⟨rfl, rfl⟩
  · rw [if_neg (by omega), if_neg (by omega)]
    exact ⟨if_neg (by omega), rfl⟩
  · rw [if_neg (by omega), if_pos (by omega)]
    exact ⟨if_neg (by omega), rfl⟩

end Go.Proofs.YtdikmlnpclklnaaGreatDoor.Slot

/-
  Contract of slot's write where all goes well, beside a block that a caller keeps.
-/
namespace Go.Proofs.YtdikmlnpclklnaaGreatDoor.Slot
open Go Go.RowKit Go.Lib Go.Proofs.YtdikmlnpclklnaaGreatDoor.Law Go.Proofs.YtdikmlnpclklnaaGreatDoor.Disk

/-- The slot's block, and one that a caller keeps. -/
def Own2 (sl bx k : Nat) : Prop := k = sl ∨ k = bx
def WrittenF (w : World) (sl bx db : Nat) (o : Option Obj) (D : DS) (a b v : ByteArray) (n : Int) (sp : Nat) (bk : Bool) (f : List Nat) (e : Ending) (W : World) : Prop :=
  e = .returned (.int .i64 0) ∧ Dx (Own2 sl bx) w db ((D.write (fileN a b sp) 0 (str f)).sync (fileN a b sp)) W ∧ SlotB W sl db a b v n sp bk ∧ W.heap[bx]? = o
theorem Dx.onlyF {w W W' : World} {sl bx db : Nat} {D : DS} (h : Dx (Own2 sl bx) w db D W) (hO : Only sl W W') : Dx (Own2 sl bx) w db D W' :=
  h.turn hO.size (fun k hk hf => hO.same k hk (fun e => hf (.inl e))) hO.os hO.tape hO.output
theorem Dx.keptF {w W : World} {sl bx db : Nat} {D : DS} (h : Dx (Own2 sl bx) w db D W) : bx < W.heap.size := by
  obtain ⟨O, _, _, _, _, h5⟩ := h
  exact (h5 bx (.inr rfl)).2.1

set_option maxRecDepth 100000 in
set_option maxHeartbeats 4000000 in
theorem write_callsF (w W : World) (sl bx db : Nat) (o : Option Obj) (hbx : W.heap[bx]? = o) (D : DS) (a b v : ByteArray) (n : Int) (sp : Nat) (hsp : sp ≤ 1) (bk : Bool) (hD : Dx (Own2 sl bx) w db D W) (hS : SlotB W sl db a b v n sp bk) (hT : Crc.Tab W) (hmade : D.made ≤ 4000000000)
    (ha : a.size ≤ 14) (hb : b.size ≤ 14) (s : ByteArray) (hs : s.size ≤ 60000) (m : Int) (hm : -9223372036854775808 ≤ m ∧ m ≤ 9223372036854775807)
    (h0 : D.writeN (fileN a b sp) 0 (frm m s).length = 0) (h1 : (D.write (fileN a b sp) 0 (str (frm m s))).syncN (fileN a b sp) = 0) :
    Calls Tryz.prog 65 #[.pointer (some ⟨sl, 0, none⟩), .string s, .int .i64 m] W (WrittenF w sl bx db o D a b v n sp bk (frm m s)) := by
  have hsz := hD.low.size
  have hbl : bx < W.heap.size := by
    obtain ⟨O, _, _, _, _, h5⟩ := id hD
    exact (h5 bx (.inr rfl)).2.1
  have henc := enc_msg m s hs
  have hput := put_pay m s hs
  have hfl := frm_length m s hs
  obtain ⟨P, hP⟩ : ∃ P, pay m s = P := ⟨_, rfl⟩
  obtain ⟨F, hF⟩ : ∃ F, frm m s = F := ⟨_, rfl⟩
  obtain ⟨L, hL⟩ : ∃ L, F.length = L := ⟨_, rfl⟩
  rw [hP] at henc hput
  rw [hF] at hput hfl h0 h1 ⊢
  rw [hL] at hfl h0
  have CE : Hid (∀ W2, Below W.heap.size W W2 → Calls Tryz.prog 95 #[.slice (some ⟨W2.heap.size, 0, none⟩) 2 2] (laid W2 m s) fun e W3 => ∃ A l c, e = .returned (.tuple #[.slice A l c, .int .i64 0]) ∧ Hid (Bytes W3.heap.size W3 (.slice A l c) P ∧ Below W.heap.size W W3)) := Lib.hid fun W2 hB2 => by
    refine (Wire.encode_calls (msg m s) (msg_sized m s hm hs) (by simp [msg]) _ _ (laid_old W2 m s)).mono ?_
    rintro e W3 ⟨v3, rfl, hO, hB3⟩
    rw [henc] at hO ⊢
    have hl := laid_below W2 m s
    obtain ⟨A, c, rfl⟩ := hO.bytes.form
    exact ⟨A, _, c, rfl, Lib.hid ⟨hO.bytes, (hB2.trans (hl.mono hB2.size)).trans (hB3.mono (Nat.le_trans hB2.size hl.size))⟩⟩
  have CP : Hid (∀ W3 A l c, Below W.heap.size W W3 → Bytes W3.heap.size W3 (.slice A l c) P → Calls Tryz.prog 50 #[.slice A l c] W3 fun e W4 => ∃ A4 c4, e = .returned (.tuple #[.slice A4 L c4, .int .i64 0]) ∧ Hid (Bytes W4.heap.size W4 (.slice A4 L c4) F ∧ Below W.heap.size W W4)) := Lib.hid fun W3 A l c hB3 hI => by
    refine (Frame.put_calls _ P W3 (hT.below hB3) hI).mono ?_
    rintro e W4 ⟨v4, rfl, hO, hB4⟩
    rw [hput] at hO ⊢
    obtain ⟨A4, c4, rfl⟩ := hO.bytes.form
    rw [hL] at hO ⊢
    exact ⟨A4, c4, rfl, Lib.hid ⟨hO.bytes, hB3.trans (hB4.mono hB3.size)⟩⟩
  have CW : Hid (∀ W0 A c, Below W.heap.size W W0 → Bytes W0.heap.size W0 (.slice A L c) F → Calls Tryz.prog 10 #[.pointer (some ⟨db, 0, none⟩), .string (fileN a b sp), .int .i64 0, .slice A L c] W0 fun e W5 => e = .returned (.int .i64 0) ∧ Hid (Dx (Own2 sl bx) w db (D.write (fileN a b sp) 0 (str F)) W5 ∧ SlotB W5 sl db a b v n sp bk ∧ W5.heap[bx]? = o)) := Lib.hid fun W0 A c hB0 hI => by
    have hnm : (fileN a b sp).size ≤ 14 := by unfold fileN; split <;> assumption
    have h := (hD.below hB0).write (by omega) (fileN a b sp) (by omega) 0 (by decide) (.slice A L c) F (by omega) hI
    rw [hL, h0] at h
    refine h.mono ?_
    rintro e W5 ⟨rfl, h5, h6⟩
    exact ⟨rfl, Lib.hid ⟨h5, (h6.1 sl (.inl rfl)).trans (hS.below hB0), (h6.1 bx (.inr rfl)).trans ((hB0.block bx hbl).trans hbx)⟩⟩
  have CY : Hid (∀ W0, Dx (Own2 sl bx) w db (D.write (fileN a b sp) 0 (str F)) W0 → SlotB W0 sl db a b v n sp bk → W0.heap[bx]? = o → Calls Tryz.prog 11 #[.pointer (some ⟨db, 0, none⟩), .string (fileN a b sp)] W0 fun e W5 => e = .returned (.int .i64 0) ∧ Hid (WrittenF w sl bx db o D a b v n sp bk F (.returned (.int .i64 0)) W5)) := Lib.hid fun W0 h2 h3 h3b => by
    have hnm : (fileN a b sp).size ≤ 14 := by unfold fileN; split <;> assumption
    have h := h2.sync (fileN a b sp) (by omega)
    rw [h1] at h
    refine h.mono ?_
    rintro e W5 ⟨rfl, h5, h6⟩
    exact ⟨rfl, Lib.hid ⟨rfl, h5, (h6.1 sl (.inl rfl)).trans h3, (h6.1 bx (.inr rfl)).trans h3b⟩⟩
  have HSB : Hid (∀ W0, Below W.heap.size W W0 → SlotB W0 sl db a b v n sp bk) := Lib.hid fun W0 hB => hS.below hB
  have HBD : Hid (∀ (W0 W1 : World), Below W.heap.size W W0 → Below W0.heap.size W0 W1 → Below W.heap.size W W1) := Lib.hid fun W0 W1 h h' => h.trans (h'.mono h.size)
  obtain ⟨D1, hD1⟩ : ∃ D1, D.write (fileN a b sp) 0 (str F) = D1 := ⟨_, rfl⟩
  rw [hD1] at CW CY
  clear hD hS hT hbx hbl henc hput hfl hP hF hL h0 h1 hmade hD1 hsz
  obtain rfl | rfl : sp = 0 ∨ sp = 1 := by omega
  all_goals
    unfold fileN at CW CY
    simp only [if_true, Nat.one_ne_zero, if_false] at CW CY
    go_enter Tryz.func65, Tryz.ntmps65
    go_wp2_with fail
    refine (int_calls m _).mono ?_
    rintro e W1 ⟨rfl, hB1⟩
    go_wp2_with fail
    refine (text_calls s _).mono ?_
    rintro e W2 ⟨rfl, hB2⟩
    have HB2 := Lib.hid (HBD.out _ _ hB1 hB2)
    have CE2 := Lib.hid (CE.out W2 HB2.out)
    unfold laid at CE2
    clear hB1 hB2 CE
    go_wp2_with fail
    refine CE2.out.mono ?_
    rintro e W3 ⟨A3, l3, c3, rfl, H3⟩
    have CP3 := Lib.hid (CP.out W3 A3 l3 c3 H3.out.2 H3.out.1)
    clear CE2 CP H3 HB2
    go_wp2_with fail
    refine CP3.out.mono ?_
    rintro e W4 ⟨A4, c4, rfl, H4⟩
    obtain ⟨⟨k0, k1, k2, _, _, k5, _⟩, _⟩ := (HSB.out W4 H4.out.2).cells
    have HBW : Hid (Below W.heap.size W W4.drew) := Lib.hid (HBD.out _ _ H4.out.2 (Below.refl _ _).drew)
    have HIW : Hid (Bytes W4.drew.heap.size W4.drew (.slice A4 L c4) F) := Lib.hid H4.out.1
    have CW4 := Lib.hid (CW.out W4.drew A4 c4 HBW.out HIW.out)
    clear CP3 CW HBW HIW
    go_wp2_with fail
    go_region_with (go_at_call 10; ((with_reducible refine CW4.out.mono ?_); rintro e W5 ⟨rfl, H5⟩))
    all_goals
      obtain ⟨⟨j0, j1, j2, _, _, j5, _⟩, _⟩ := H5.out.2.1.cells
      have CY5 := Lib.hid (CY.out W5.drew (H5.out.1.below (Below.refl _ _).drew) H5.out.2.1 H5.out.2.2)
      clear k0 k1 k2 k5 CW4
      go_wp2_with fail
      go_region_with (go_at_call 11; ((with_reducible refine CY5.out.mono ?_); rintro e W6 ⟨rfl, H6⟩))
      all_goals
        go_wp2_with fail
        go_ret
        exact H6.out

end Go.Proofs.YtdikmlnpclklnaaGreatDoor.Slot

/-
  Contracts of slot's Put, beside a block that a caller keeps.
-/
namespace Go.Proofs.YtdikmlnpclklnaaGreatDoor.Slot
open Go Go.RowKit Go.Lib Go.Proofs.YtdikmlnpclklnaaGreatDoor.Law Go.Proofs.YtdikmlnpclklnaaGreatDoor.Disk

def PutOF (w : World) (sl bx db : Nat) (o : Option Obj) (D : DS) (a b s : ByteArray) (m : Int) (sp : Nat) (e : Ending) (W : World) : Prop :=
  e = .returned (.int .i64 0) ∧ Dx (Own2 sl bx) w db (DS.put D (fileN a b sp) (frm m s)) W ∧ SlotB W sl db a b s m (1 - sp) false ∧ W.heap[bx]? = o
def RefusedF (w : World) (sl bx db : Nat) (o : Option Obj) (D : DS) (a b v : ByteArray) (n : Int) (sp : Nat) (bk : Bool) (r : Nat) (e : Ending) (W : World) : Prop :=
  e = .returned (.int .i64 (r : Nat)) ∧ Dx (Own2 sl bx) w db D W ∧ SlotB W sl db a b v n sp bk ∧ W.heap[bx]? = o

set_option maxRecDepth 100000 in
set_option maxHeartbeats 4000000 in
theorem put_callsF (w W : World) (sl bx db : Nat) (hne : bx ≠ sl) (o : Option Obj) (hbx : W.heap[bx]? = o) (D : DS) (a b v : ByteArray) (n : Int) (sp : Nat) (hsp : sp ≤ 1) (hD : Dx (Own2 sl bx) w db D W) (hS : SlotB W sl db a b v n sp false) (hT : Crc.Tab W) (hmade : D.made ≤ 4000000000)
    (ha : a.size ≤ 14) (hb : b.size ≤ 14) (s : ByteArray) (hs : s.size ≤ 60000) (hn : 0 ≤ n ∧ n < 9223372036854775807)
    (h0 : D.writeN (fileN a b sp) 0 (frm (n + 1) s).length = 0) (h1 : (D.write (fileN a b sp) 0 (str (frm (n + 1) s))).syncN (fileN a b sp) = 0) :
    Calls Tryz.prog 30 #[.pointer (some ⟨sl, 0, none⟩), .string s] W (PutOF w sl bx db o D a b s (n + 1) sp) := by
  have CW := Lib.hid (write_callsF w W sl bx db o hbx D a b v n sp hsp false hD hS hT hmade ha hb s hs (n + 1) (by omega) h0 h1)
  obtain ⟨⟨_, _, _, _, k4, _, k6⟩, _⟩ := hS.cells
  have hsI : (s.size : Int) ≤ 60000 := by omega
  obtain ⟨hn0, hn1⟩ := hn
  have hnI : (n == 9223372036854775807) = false := by rw [beq_eq_false_iff_ne]; omega
  have hwrap : IntKind.i64.wrap (n + 1) = n + 1 := by unfold IntKind.wrap; simp [IntKind.signed, IntKind.bits]; omega
  have HSP := Lib.hid hsp
  clear hD hS hT h0 h1 hmade ha hb hsp hbx
  go_enter Tryz.func30, Tryz.ntmps30
  go_wp2_with fail
  refine CW.out.mono ?_
  rintro e W1 ⟨rfl, h1, h2, h2b⟩
  obtain ⟨⟨_, _, _, _, j4, j5, _⟩, _⟩ := h2.cells
  have CC : Hid (∀ W0, Below W1.heap.size W1 W0 → Calls Tryz.prog 37 #[.string s] W0 fun e W' => e = .returned (.string s) ∧ Hid (Below W1.heap.size W1 W') ∧ W'.cell? ⟨sl, 4, none⟩ = some (.int .i64 n) ∧ W'.cell? ⟨sl, 5, none⟩ = some (.int .i64 (sp : Nat))) := Lib.hid fun W0 hB0 => by
    refine (cloneS_calls s W0 (by omega)).mono ?_
    rintro e W' ⟨rfl, hB⟩
    have hB' := hB0.trans (hB.mono hB0.size)
    obtain ⟨⟨_, _, _, _, i4, i5, _⟩, _⟩ := (h2.below hB').cells
    exact ⟨rfl, Lib.hid hB', i4, i5⟩
  have CT : Hid (∀ W0, Below W1.heap.size W1 W0 → Calls Tryz.prog 66 #[.pointer (some ⟨sl, 0, none⟩), .string s, .int .i64 (n + 1), .int .i64 (sp : Nat)] W0 fun e W' => e = .returned (.tuple #[]) ∧ Hid (PutOF w sl bx db o D a b s (n + 1) sp (.returned (.int .i64 0)) W')) := Lib.hid fun W0 hB0 => by
    refine (take_calls W0 sl db sp a b v n false (h2.below hB0) s (n + 1) sp HSP.out).mono ?_
    rintro e W' ⟨rfl, h3, h4⟩
    exact ⟨rfl, Lib.hid ⟨rfl, Dx.onlyF (h1.below hB0) h4, h3, (h4.same bx (Nat.lt_of_lt_of_le (Dx.keptF h1) hB0.size) hne).trans ((hB0.block bx (Dx.keptF h1)).trans h2b)⟩⟩
  have HBD : Hid (Below W1.heap.size W1 W1.drew) := Lib.hid (Below.refl _ _).drew
  clear h1 h2 h2b k4 k6 CW hne
  go_wp2_with fail
  go_region_with (first
    | (go_at_call 37; ((with_reducible refine (CC.out _ HBD.out).mono ?_); rintro e W2 ⟨rfl, HB2, i4, i5⟩))
    | (go_at_call 66; ((with_reducible refine (CT.out _ HB2.out).mono ?_); rintro e W3 ⟨rfl, HO⟩)))
  all_goals
    go_wp2_with fail
    go_ret
    exact HO.out

set_option maxRecDepth 100000 in
set_option maxHeartbeats 4000000 in
theorem write_failsF (w W : World) (sl bx db : Nat) (o : Option Obj) (hbx : W.heap[bx]? = o) (D : DS) (a b v : ByteArray) (n : Int) (sp : Nat) (hsp : sp ≤ 1) (bk : Bool) (hD : Dx (Own2 sl bx) w db D W) (hS : SlotB W sl db a b v n sp bk) (hT : Crc.Tab W) (hmade : D.made ≤ 4000000000)
    (ha : a.size ≤ 14) (hb : b.size ≤ 14) (s : ByteArray) (hs : s.size ≤ 60000) (m : Int) (hm : -9223372036854775808 ≤ m ∧ m ≤ 9223372036854775807)
    (r : Nat) (h0 : D.writeN (fileN a b sp) 0 (frm m s).length = r) (hr : r ≠ 0) :
    Calls Tryz.prog 65 #[.pointer (some ⟨sl, 0, none⟩), .string s, .int .i64 m] W (RefusedF w sl bx db o D a b v n sp bk r) := by
  have hsz := hD.low.size
  have hbl := (Dx.keptF hD)
  have henc := enc_msg m s hs
  have hput := put_pay m s hs
  have hfl := frm_length m s hs
  obtain ⟨P, hP⟩ : ∃ P, pay m s = P := ⟨_, rfl⟩
  obtain ⟨F, hF⟩ : ∃ F, frm m s = F := ⟨_, rfl⟩
  obtain ⟨L, hL⟩ : ∃ L, F.length = L := ⟨_, rfl⟩
  rw [hP] at henc hput
  rw [hF] at hput hfl h0
  rw [hL] at hfl h0
  have CE : Hid (∀ W2, Below W.heap.size W W2 → Calls Tryz.prog 95 #[.slice (some ⟨W2.heap.size, 0, none⟩) 2 2] (laid W2 m s) fun e W3 => ∃ A l c, e = .returned (.tuple #[.slice A l c, .int .i64 0]) ∧ Hid (Bytes W3.heap.size W3 (.slice A l c) P ∧ Below W.heap.size W W3)) := Lib.hid fun W2 hB2 => by
    refine (Wire.encode_calls (msg m s) (msg_sized m s hm hs) (by simp [msg]) _ _ (laid_old W2 m s)).mono ?_
    rintro e W3 ⟨v3, rfl, hO, hB3⟩
    rw [henc] at hO ⊢
    have hl := laid_below W2 m s
    obtain ⟨A, c, rfl⟩ := hO.bytes.form
    exact ⟨A, _, c, rfl, Lib.hid ⟨hO.bytes, (hB2.trans (hl.mono hB2.size)).trans (hB3.mono (Nat.le_trans hB2.size hl.size))⟩⟩
  have CP : Hid (∀ W3 A l c, Below W.heap.size W W3 → Bytes W3.heap.size W3 (.slice A l c) P → Calls Tryz.prog 50 #[.slice A l c] W3 fun e W4 => ∃ A4 c4, e = .returned (.tuple #[.slice A4 L c4, .int .i64 0]) ∧ Hid (Bytes W4.heap.size W4 (.slice A4 L c4) F ∧ Below W.heap.size W W4)) := Lib.hid fun W3 A l c hB3 hI => by
    refine (Frame.put_calls _ P W3 (hT.below hB3) hI).mono ?_
    rintro e W4 ⟨v4, rfl, hO, hB4⟩
    rw [hput] at hO ⊢
    obtain ⟨A4, c4, rfl⟩ := hO.bytes.form
    rw [hL] at hO ⊢
    exact ⟨A4, c4, rfl, Lib.hid ⟨hO.bytes, hB3.trans (hB4.mono hB3.size)⟩⟩
  have CW : Hid (∀ W0 A c, Below W.heap.size W W0 → Bytes W0.heap.size W0 (.slice A L c) F → Calls Tryz.prog 10 #[.pointer (some ⟨db, 0, none⟩), .string (fileN a b sp), .int .i64 0, .slice A L c] W0 fun e W5 => e = .returned (.int .i64 (r : Nat)) ∧ Hid (RefusedF w sl bx db o D a b v n sp bk r (.returned (.int .i64 (r : Nat))) W5)) := Lib.hid fun W0 A c hB0 hI => by
    have hnm : (fileN a b sp).size ≤ 14 := by unfold fileN; split <;> assumption
    have h := (hD.below hB0).write (by omega) (fileN a b sp) (by omega) 0 (by decide) (.slice A L c) F (by omega) hI
    have hst : D.write (fileN a b sp) 0 (str F) = D := by unfold DS.write; rw [str_size, hL, h0, if_neg hr]
    rw [hL, h0, hst] at h
    refine h.mono ?_
    rintro e W5 ⟨rfl, h5, h6⟩
    exact ⟨rfl, Lib.hid ⟨rfl, h5, (h6.1 sl (.inl rfl)).trans (hS.below hB0), (h6.1 bx (.inr rfl)).trans ((hB0.block bx hbl).trans hbx)⟩⟩
  have HSB : Hid (∀ W0, Below W.heap.size W W0 → SlotB W0 sl db a b v n sp bk) := Lib.hid fun W0 hB => hS.below hB
  have HBD : Hid (∀ (W0 W1 : World), Below W.heap.size W W0 → Below W0.heap.size W0 W1 → Below W.heap.size W W1) := Lib.hid fun W0 W1 h h' => h.trans (h'.mono h.size)
  have hrI : ((r : Int) != 0) = true := by rw [bne_iff_ne]; omega
  clear hD hS hT hbx hbl henc hput hfl hP hF hL h0 hmade hsz hr
  obtain rfl | rfl : sp = 0 ∨ sp = 1 := by omega
  all_goals
    unfold fileN at CW
    simp only [if_true, Nat.one_ne_zero, if_false] at CW
    go_enter Tryz.func65, Tryz.ntmps65
    go_wp2_with fail
    refine (int_calls m _).mono ?_
    rintro e W1 ⟨rfl, hB1⟩
    go_wp2_with fail
    refine (text_calls s _).mono ?_
    rintro e W2 ⟨rfl, hB2⟩
    have HB2 := Lib.hid (HBD.out _ _ hB1 hB2)
    have CE2 := Lib.hid (CE.out W2 HB2.out)
    unfold laid at CE2
    clear hB1 hB2 CE
    go_wp2_with fail
    refine CE2.out.mono ?_
    rintro e W3 ⟨A3, l3, c3, rfl, H3⟩
    have CP3 := Lib.hid (CP.out W3 A3 l3 c3 H3.out.2 H3.out.1)
    clear CE2 CP H3 HB2
    go_wp2_with fail
    refine CP3.out.mono ?_
    rintro e W4 ⟨A4, c4, rfl, H4⟩
    obtain ⟨⟨k0, k1, k2, _, _, k5, _⟩, _⟩ := (HSB.out W4 H4.out.2).cells
    have HBW : Hid (Below W.heap.size W W4.drew) := Lib.hid (HBD.out _ _ H4.out.2 (Below.refl _ _).drew)
    have HIW : Hid (Bytes W4.drew.heap.size W4.drew (.slice A4 L c4) F) := Lib.hid H4.out.1
    have CW4 := Lib.hid (CW.out W4.drew A4 c4 HBW.out HIW.out)
    clear CP3 CW HBW HIW
    go_wp2_with fail
    go_region_with (go_at_call 10; ((with_reducible refine CW4.out.mono ?_); rintro e W5 ⟨rfl, H5⟩))
    all_goals
      go_wp2_with fail
      go_ret
      exact H5.out

set_option maxRecDepth 100000 in
set_option maxHeartbeats 4000000 in
theorem put_failsF (w W : World) (sl bx db : Nat) (hne : bx ≠ sl) (o : Option Obj) (hbx : W.heap[bx]? = o) (D : DS) (a b v : ByteArray) (n : Int) (sp : Nat) (hsp : sp ≤ 1) (hD : Dx (Own2 sl bx) w db D W) (hS : SlotB W sl db a b v n sp false) (hT : Crc.Tab W) (hmade : D.made ≤ 4000000000)
    (ha : a.size ≤ 14) (hb : b.size ≤ 14) (s : ByteArray) (hs : s.size ≤ 60000) (hn : 0 ≤ n ∧ n < 9223372036854775807)
    (r : Nat) (h0 : D.writeN (fileN a b sp) 0 (frm (n + 1) s).length = r) (hr : r ≠ 0) :
    Calls Tryz.prog 30 #[.pointer (some ⟨sl, 0, none⟩), .string s] W (RefusedF w sl bx db o D a b v n sp true r) := by
  have CW := Lib.hid (write_failsF w W sl bx db o hbx D a b v n sp hsp false hD hS hT hmade ha hb s hs (n + 1) (by omega) r h0 hr)
  obtain ⟨⟨_, _, _, _, k4, _, k6⟩, _⟩ := hS.cells
  have hsI : (s.size : Int) ≤ 60000 := by omega
  obtain ⟨hn0, hn1⟩ := hn
  have hnI : (n == 9223372036854775807) = false := by rw [beq_eq_false_iff_ne]; omega
  have hrI : ((r : Int) != 0) = true := by rw [bne_iff_ne]; omega
  clear hD hS hT h0 hmade ha hb hsp hr hbx
  go_enter Tryz.func30, Tryz.ntmps30
  go_wp2_with fail
  refine CW.out.mono ?_
  rintro e W1 ⟨rfl, h1, h2, h2b⟩
  obtain ⟨⟨_, _, _, _, _, _, j6⟩, jz⟩ := h2.cells
  have jz6 := jz 6
  have HF : Hid (RefusedF w sl bx db o D a b v n sp true r (.returned (.int .i64 (r : Nat))) (W1.setCell ⟨sl, 6, none⟩ (.bool true))) := Lib.hid ⟨rfl, Dx.onlyF h1 (Only.set W1 sl 6 _), by
    have := slot_set h2 6 (.bool true)
    exact this.trans (by simp), ((Only.set W1 sl 6 (.bool true)).same bx (Dx.keptF h1) hne).trans h2b⟩
  clear h1 h2 h2b jz CW k4 k6 hne
  go_wp2_with fail
  go_ret
  exact HF.out

end Go.Proofs.YtdikmlnpclklnaaGreatDoor.Slot

/-
  What each of SlotScripts' calls makes of slot and disk.
-/
namespace Go.Proofs.YtdikmlnpclklnaaGreatDoor.Slot
open Go Go.RowKit Go.Lib Go.Proofs.YtdikmlnpclklnaaGreatDoor.Law Go.Proofs.YtdikmlnpclklnaaGreatDoor.Disk

theorem nameN_rA : rightB (nameA nameN) = true := by decide +kernel
theorem nameN_rB : rightB (nameB nameN) = true := by decide +kernel
theorem nameN_ne : nameA nameN ≠ nameB nameN := by decide +kernel
theorem nameN_sz : (nameA nameN).size ≤ 14 ∧ (nameB nameN).size ≤ 14 := by decide +kernel

/-- What holds at the head of each round. -/
def St (w : World) (db sl : Nat) (value : ByteArray) (n : Nat) (torn : Bool) (i : Nat) (W : World) : Prop :=
  ∃ D, Dx (fun k => k = sl) w db D W ∧ SlotB W sl db (nameA nameN) (nameB nameN) value (n : Nat) (n % 2) torn ∧ SG D (nameA nameN) (nameB nameN) value n ∧ n ≤ i ∧ D.made ≤ i
/-- .. beside the step's box. -/
def StB (w : World) (db sl bx : Nat) (o : Option Obj) (value : ByteArray) (n : Nat) (torn : Bool) (i : Nat) (W : World) : Prop :=
  ∃ D, Dx (Own2 sl bx) w db D W ∧ SlotB W sl db (nameA nameN) (nameB nameN) value (n : Nat) (n % 2) torn ∧ SG D (nameA nameN) (nameB nameN) value n ∧ n ≤ i ∧ D.made ≤ i ∧ bx ≠ sl ∧ W.heap[bx]? = o

theorem Dx.to {Fr Fr' : Nat → Prop} {w W : World} {db : Nat} {D : DS} (h : Dx Fr w db D W) (hf : ∀ k, Fr' k → Fr k) : Dx Fr' w db D W := by
  obtain ⟨O, h1, h2, h3, h4, h5⟩ := h
  exact ⟨O, h1, h2, h3, h4, fun k hk => h5 k (hf k hk)⟩
theorem StB.st {w : World} {db sl bx : Nat} {o : Option Obj} {value : ByteArray} {n : Nat} {torn : Bool} {i : Nat} {W : World} (h : StB w db sl bx o value n torn i W) : St w db sl value n torn i W := by
  obtain ⟨D, h1, h2, h3, h4, h5, _⟩ := h
  exact ⟨D, Dx.to h1 (fun k hk => .inl hk), h2, h3, h4, h5⟩
theorem St.low {w : World} {db sl : Nat} {value : ByteArray} {n : Nat} {torn : Bool} {i : Nat} {W : World} (h : St w db sl value n torn i W) : Below w.heap.size w W := by
  obtain ⟨D, h1, _⟩ := h
  exact h1.low
theorem St.below {w : World} {db sl : Nat} {value : ByteArray} {n : Nat} {torn : Bool} {i : Nat} {W W' : World} (h : St w db sl value n torn i W) (hB : Below W.heap.size W W') : St w db sl value n torn i W' := by
  obtain ⟨D, h1, h2, h3⟩ := h
  exact ⟨D, h1.below hB, h2.below hB, h3⟩
theorem St.more {w : World} {db sl : Nat} {value : ByteArray} {n : Nat} {torn : Bool} {i j : Nat} {W : World} (h : St w db sl value n torn i W) (hij : i ≤ j) : St w db sl value n torn j W := by
  obtain ⟨D, h1, h2, h3, h4, h5⟩ := h
  exact ⟨D, h1, h2, h3, by omega, by omega⟩
/-- A box that has just been laid. -/
theorem St.box {w : World} {db sl : Nat} {value : ByteArray} {n : Nat} {torn : Bool} {i : Nat} {W W' : World} {o : Option Obj} (h : St w db sl value n torn i W) (hB : Below W.heap.size W W') (hs : W'.heap.size = W.heap.size + 1) (ho : W'.heap[W.heap.size]? = o) : StB w db sl W.heap.size o value n torn i W' := by
  obtain ⟨D, h1, h2, h3, h4, h5⟩ := h
  have hl := h2.lt
  refine ⟨D, Dx.to (h1.add hB) fun k hk => ?_, h2.below hB, h3, h4, h5, by omega, ho⟩
  rcases hk with hk | hk
  · exact .inl hk
  · exact .inr (by omega)

set_option maxRecDepth 10000 in
theorem st_get {w : World} {db sl : Nat} {value : ByteArray} {n : Nat} {torn : Bool} {i : Nat} {W : World} (h : St w db sl value n torn i W) :
    Calls Tryz.prog 31 #[.pointer (some ⟨sl, 0, none⟩)] W fun e W' => e = .returned (.tuple #[.string value, .int .i64 (n : Nat)]) ∧ Hid (St w db sl value n torn i W') := by
  obtain ⟨D, h1, h2, h3⟩ := id h
  refine (get_calls W sl db _ _ _ value (n : Nat) torn h2).mono ?_
  rintro e W' ⟨rfl, hB⟩
  exact ⟨rfl, Lib.hid (h.below hB)⟩

/-- The two files and the document's answer. -/
theorem st_tell {w : World} {db sl : Nat} {value : ByteArray} {n : Nat} {torn : Bool} {i : Nat} {W : World} (h : St w db sl value n torn i W) :
    Calls Tryz.prog 12 #[.pointer (some ⟨db, 0, none⟩), .string ⟨#[110, 45, 97]⟩] W fun e W1 => ∃ A1 l1 c1 t1, e = .returned (.tuple #[.slice A1 l1 c1, .bool t1]) ∧
      Hid (Calls Tryz.prog 12 #[.pointer (some ⟨db, 0, none⟩), .string ⟨#[110, 45, 98]⟩] W1 fun e W2 => ∃ A2 l2 c2 t2, e = .returned (.tuple #[.slice A2 l2 c2, .bool t2]) ∧
        Hid (Calls Tryz.prog 33 #[.slice A1 l1 c1, .slice A2 l2 c2] W2 fun e W3 => ∃ z, e = .returned (.tuple #[.string value, .int .i64 (n : Nat), .int .i64 z]) ∧ Hid (St w db sl value n torn i W3))) := by
  obtain ⟨D, h1, h2, h3, h4, h5⟩ := id h
  obtain ⟨ma, mb, sa, sb, q1, q2, _, q4, q5⟩ := h3.value
  have hw := Dx.wf h1
  have hsz : ∀ x : ByteArray, ((D.now x).getD []).length ≤ 1073741824 := fun x => by rw [szO_getD]; exact hw.nowLe x
  have zA : (⟨#[110, 45, 97]⟩ : ByteArray).size = 3 := rfl
  have zB : (⟨#[110, 45, 98]⟩ : ByteArray).size = 3 := rfl
  rw [nameN_A] at q1
  rw [nameN_B] at q2
  refine (h1.read ⟨#[110, 45, 97]⟩ (by show (⟨#[110, 45, 97]⟩ : ByteArray).size ≤ maxLen; rw [zA]; decide)).mono ?_
  rintro e W1 ⟨v1, rfl, hO1, hB1⟩
  have hb1 := hO1.bytes
  obtain ⟨A1, c1, rfl⟩ := hb1.form
  refine ⟨A1, _, c1, _, rfl, Lib.hid (((h1.below hB1).read ⟨#[110, 45, 98]⟩ (by show (⟨#[110, 45, 98]⟩ : ByteArray).size ≤ maxLen; rw [zB]; decide)).mono ?_)⟩
  rintro e W2 ⟨v2, rfl, hO2, hB2⟩
  have hb2 := hO2.bytes
  obtain ⟨A2, c2, rfl⟩ := hb2.form
  refine ⟨A2, _, c2, _, rfl, Lib.hid ((value_calls _ _ _ _ ma mb sa sb q1 q2 (hsz _) (hsz _) W2 (hb1.on hB2) hb2).mono ?_)⟩
  rintro e W3 ⟨rfl, hB3⟩
  rw [q4, q5]
  exact ⟨_, rfl, Lib.hid (((h.below hB1).below hB2).below hB3)⟩

/-- The disk's Fail ahead of a Put, or behind it. -/
theorem stb_fail {w : World} {db sl bx : Nat} {o : Option Obj} {value : ByteArray} {n : Nat} {torn : Bool} {W : World} {D : DS} (h1 : Dx (Own2 sl bx) w db D W) (h2 : SlotB W sl db (nameA nameN) (nameB nameN) value (n : Nat) (n % 2) torn) (h7 : W.heap[bx]? = o) (t : Bool) :
    Calls Tryz.prog 29 #[.pointer (some ⟨db, 0, none⟩), .bool t] W fun e W' => e = .returned (.tuple #[]) ∧ Dx (Own2 sl bx) w db (D.fail t) W' ∧ SlotB W' sl db (nameA nameN) (nameB nameN) value (n : Nat) (n % 2) torn ∧ W'.heap[bx]? = o := by
  refine (Dx.fail h1 t).mono ?_
  rintro e W' ⟨rfl, e1, e2⟩
  exact ⟨rfl, e1, (e2.1 sl (.inl rfl)).trans h2, (e2.1 bx (.inr rfl)).trans h7⟩

/-- Fail, Put, Fail: what is left, by what Put answers. -/
def Chain (db sl bx : Nat) (o : Option Obj) (t : Bool) (v : ByteArray) (P : Int → World → Prop) (W : World) : Prop :=
  Calls Tryz.prog 29 #[.pointer (some ⟨db, 0, none⟩), .bool t] W fun e W1 => e = .returned (.tuple #[]) ∧ W1.heap[bx]? = o ∧
    Hid (Calls Tryz.prog 30 #[.pointer (some ⟨sl, 0, none⟩), .string v] W1 fun e W2 => ∃ r : Int, e = .returned (.int .i64 r) ∧ W2.heap[bx]? = o ∧
      Hid (Calls Tryz.prog 29 #[.pointer (some ⟨db, 0, none⟩), .bool false] W2 fun e W3 => e = .returned (.tuple #[]) ∧ W3.heap[bx]? = o ∧ Hid (P r W3)))

theorem chain_torn {w : World} {db sl bx : Nat} {o : Option Obj} {value : ByteArray} {n i : Nat} {W : World} (h : StB w db sl bx o value n true i W) (t : Bool) (v : ByteArray) :
    Chain db sl bx o t v (fun r W' => r = 9 ∧ StB w db sl bx o value n true i W') W := by
  obtain ⟨D, h1, h2, h3, h4, h5, h6, h7⟩ := h
  refine (stb_fail h1 h2 h7 t).mono ?_
  rintro e W1 ⟨rfl, a1, a2, a3⟩
  refine ⟨rfl, a3, Lib.hid ((put_broken W1 sl db _ _ value (n : Nat) (n % 2) a2 v).mono ?_)⟩
  rintro e W2 ⟨rfl, rfl⟩
  refine ⟨9, rfl, a3, Lib.hid ((stb_fail a1 a2 a3 false).mono ?_)⟩
  rintro e W3 ⟨rfl, b1, b2, b3⟩
  exact ⟨rfl, b3, Lib.hid ⟨rfl, _, b1, b2, h3.failed t, h4, h5, h6, b3⟩⟩

theorem chain_fault {w : World} (hT : Crc.Tab w) {db sl bx : Nat} {o : Option Obj} {value : ByteArray} {n i : Nat} {W : World} (h : StB w db sl bx o value n false i W) (hi : i ≤ 100) (v : ByteArray) (hv : v.size ≤ 2000) :
    Chain db sl bx o true v (fun r W' => r = 16 ∧ StB w db sl bx o value n true i W') W := by
  obtain ⟨D, h1, h2, h3, h4, h5, h6, h7⟩ := h
  refine (stb_fail h1 h2 h7 true).mono ?_
  rintro e W1 ⟨rfl, a1, a2, a3⟩
  refine ⟨rfl, a3, Lib.hid ((put_failsF w W1 sl bx db h6 o a3 (D.fail true) _ _ value (n : Nat) (n % 2) (by omega) a1 a2 (hT.below a1.low) (by show D.made ≤ _; omega) nameN_sz.1 nameN_sz.2 v (by omega) (by omega) 16 (failed_write D _ _) (by decide)).mono ?_)⟩
  rintro e W2 ⟨rfl, b1, b2, b3⟩
  refine ⟨16, rfl, b3, Lib.hid ((stb_fail b1 b2 b3 false).mono ?_)⟩
  rintro e W3 ⟨rfl, d1, d2, d3⟩
  exact ⟨rfl, d3, Lib.hid ⟨rfl, _, d1, d2, h3.failed true, h4, h5, h6, d3⟩⟩

theorem chain_free {w : World} (hT : Crc.Tab w) {db sl bx : Nat} {o : Option Obj} {value : ByteArray} {n i : Nat} {W : World} (h : StB w db sl bx o value n false i W) (hi : i ≤ 100) (v : ByteArray) (hv : v.size ≤ 2000) :
    Chain db sl bx o false v (fun r W' => (r = 0 ∧ StB w db sl bx o v (n + 1) false (i + 1) W') ∨ (r = 6 ∧ StB w db sl bx o value n true i W')) W := by
  obtain ⟨D, h1, h2, h3, h4, h5, h6, h7⟩ := h
  have h3f : SG (D.fail false) (nameA nameN) (nameB nameN) value n := h3.alike rfl rfl rfl rfl
  refine (stb_fail h1 h2 h7 false).mono ?_
  rintro e W1 ⟨rfl, a1, a2, a3⟩
  refine ⟨rfl, a3, Lib.hid ?_⟩
  rcases h3f.put nameN_ne nameN_rA nameN_rB (by omega) v (by omega) with q | ⟨q0, q1, q2, q3⟩
  · refine (put_failsF w W1 sl bx db h6 o a3 (D.fail false) _ _ value (n : Nat) (n % 2) (by omega) a1 a2 (hT.below a1.low) (by show D.made ≤ _; omega) nameN_sz.1 nameN_sz.2 v (by omega) (by omega) 6 q (by decide)).mono ?_
    rintro e W2 ⟨rfl, b1, b2, b3⟩
    refine ⟨6, rfl, b3, Lib.hid ((stb_fail b1 b2 b3 false).mono ?_)⟩
    rintro e W3 ⟨rfl, d1, d2, d3⟩
    exact ⟨rfl, d3, Lib.hid (.inr ⟨rfl, _, d1, d2, h3.failed false, h4, h5, h6, d3⟩)⟩
  · refine (put_callsF w W1 sl bx db h6 o a3 (D.fail false) _ _ value (n : Nat) (n % 2) (by omega) a1 a2 (hT.below a1.low) (by show D.made ≤ _; omega) nameN_sz.1 nameN_sz.2 v (by omega) (by omega) q0 q1).mono ?_
    rintro e W2 ⟨rfl, b1, b2, b3⟩
    have e3 : 1 - n % 2 = (n + 1) % 2 := by omega
    have e4 : ((n : Nat) : Int) + 1 = ((n + 1 : Nat) : Int) := by omega
    rw [e3, e4] at b2
    obtain ⟨D1, hD1⟩ : ∃ D1, DS.put (D.fail false) (fileN (nameA nameN) (nameB nameN) (n % 2)) (frm ((n : Nat) + 1 : Int) v) = D1 := ⟨_, rfl⟩
    rw [hD1] at b1 q2 q3
    have q4 : D1.made ≤ i + 1 := by rw [q3]; show D.made + 1 ≤ i + 1; omega
    refine ⟨0, rfl, b3, Lib.hid ((stb_fail b1 b2 b3 false).mono ?_)⟩
    rintro e W3 ⟨rfl, d1, d2, d3⟩
    exact ⟨rfl, d3, Lib.hid (.inl ⟨rfl, D1.fail false, d1, d2, q2.alike rfl rfl rfl rfl, by omega, q4, h6, d3⟩)⟩

/-- A crash, and the slot opened again. -/
theorem stb_again {w : World} (hT : Crc.Tab w) {db sl bx : Nat} {o : Option Obj} {value : ByteArray} {n : Nat} {torn : Bool} {i : Nat} {W : World} (h : StB w db sl bx o value n torn i W) (hi : i ≤ 100) (pv : Value) (picks : List Int) (hp : Ints (fun b => b < w.heap.size) w pv picks) :
    Calls Tryz.prog 16 #[.pointer (some ⟨db, 0, none⟩), pv] W fun e W' => e = .returned (.tuple #[]) ∧ Hid (Calls Tryz.prog 28 #[.pointer (some ⟨db, 0, none⟩), .string ⟨#[110]⟩] W' fun e2 W2 => ∃ sl', e2 = .returned (.tuple #[.pointer (some ⟨sl', 0, none⟩), .int .i64 0]) ∧ Hid (St w db sl' value n false i W2)) := by
  obtain ⟨D, h1, h2, h3, h4, h5, h6, h7⟩ := h
  have hp2 : Ints (fun b => b < w.heap.size) W pv picks := hp.at fun b hb => h1.low.block b hb
  refine (crash_dk h1 (by omega) pv picks hp2).mono ?_
  rintro e W' ⟨rfl, h8⟩
  obtain ⟨q1, q2⟩ := h3.crash picks
  obtain ⟨ma, mb, sa, sb, q3, q4, q5⟩ := q1.seen
  refine ⟨rfl, Lib.hid ((open_calls w W' db _ h8 hT nameN nameN_right ma mb sa sb q3 q4 value n (n % 2) q5).mono ?_)⟩
  rintro e2 W2 ⟨sl', rfl, e3, e4⟩
  exact ⟨sl', rfl, Lib.hid ⟨_, e3, e4, q1, h4, by rw [q2]; exact h5⟩⟩

theorem stb_limit {w : World} {db sl bx : Nat} {o : Option Obj} {value : ByteArray} {n : Nat} {torn : Bool} {i : Nat} {W : World} (h : StB w db sl bx o value n torn i W) (r : Int) :
    Calls Tryz.prog 32 #[.pointer (some ⟨db, 0, none⟩), .int .i64 r] W fun e W' => ∃ m : Nat, e = .returned (.int .i64 (m : Nat)) ∧ Hid (St w db sl value n torn i W') := by
  obtain ⟨D, h1, h2, h3, h4, h5, h6, h7⟩ := h
  refine (Dx.limit h1 r).mono ?_
  rintro e W' ⟨rfl, e1, e2⟩
  refine ⟨_, rfl, Lib.hid ⟨_, Dx.to e1 (fun k hk => .inl hk), (e2.1 sl (.inl rfl)).trans h2, h3.limit r, h4, ?_⟩⟩
  have : (D.limit r).made = D.made := by unfold DS.limit; split <;> rfl
  rw [this]
  exact h5

end Go.Proofs.YtdikmlnpclklnaaGreatDoor.Slot
