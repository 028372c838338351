/-
  The walk of the law FrameCuts: whatever the bytes, if they are not too many, and the number, it returns true and nothing that lay has turned.
-/
import Derived.Test.YtmflcpkkeejjpaaDoorFrameLists
import Derived.Test.YtmflcpkkeejjpaaDoorFrameKnown
namespace Go.Proofs.YtmflcpkkeejjpaaDoor.Frame
open Go.RowKit Go.Shelf Go.Proofs.YtmflcpkkeejjpaaDoor.Law Go.Proofs.YtmflcpkkeejjpaaDoor.Crc

attribute [local go_sem] Oper.semAt_some

/-- The number of payloads that are asked for at most. -/
theorem most_of (z : Int) : ∃ m : Nat, m < 8 ∧ wrap64 ((IntKind.u64.wrap z).tmod 8) = (m : Int) := by
  have h2 : 0 ≤ IntKind.u64.wrap z := wrap_u64_nonneg z
  have h3 : (IntKind.u64.wrap z).tmod 8 = IntKind.u64.wrap z % 8 := Int.tmod_eq_emod_of_nonneg h2
  refine ⟨(IntKind.u64.wrap z % 8).toNat, by omega, ?_⟩
  rw [h3, IntWalk.wrap64_in _ (by omega)]
  omega

set_option maxRecDepth 100000 in
set_option maxHeartbeats 8000000 in
theorem frameCuts_in (n : Nat) (hn : 7 ≤ n) (sv : Value) (bs : List Nat) (hsmall : bs.length ≤ 1048576) (z : Int) (w : World) (hT : Tab w) (hI : Bytes w.heap.size w sv bs) :
    CallsIn Fence.wide n Tryd.prog 5 #[sv, .int .i64 z] w fun e W' => e = .returned (.bool true) ∧ Below w.heap.size w W' := by
  have h1 : 1 ≤ n := by omega
  obtain ⟨A, cap, rfl⟩ := hI.form
  obtain ⟨len, hlen⟩ : ∃ len, bs.length = len := ⟨_, rfl⟩
  rw [hlen] at hI hsmall ⊢
  have HL := Lib.hid hlen
  have HT := Lib.hid hT
  have HI := Lib.hid hI
  clear hlen hT hI
  obtain ⟨m, hm, hmz⟩ := most_of z
  have HMZ := Lib.hid hmz
  clear hmz
  refine callsIn_of_wp_marks Tryd.func5 rfl trivial ?_ rfl
  simp only [Tryd.ntmps5, List.size_toArray, List.length_cons, List.length_nil, Nat.reduceAdd, Nat.reduceSub, Array.replicate_succ, Array.replicate_zero, List.push_toArray, List.append_toArray, List.nil_append, List.cons_append]
  obtain ⟨w0, hw0⟩ : ∃ w0, (w.alloc (.cells #[.int .i64 z] 3)).alloc (.cells #[.bool false] 4) = w0 := ⟨_, rfl⟩
  have hs0 : w0.heap.size = w.heap.size + 2 := by rw [← hw0]; simp
  have hB0 : Below w.heap.size w w0 := by rw [← hw0]; exact ((Below.refl _ w).alloc (Nat.le_refl _) _).alloc (by simp) _
  have b3 : Boxed w0 w.heap.size 3 (.int .i64 z) := by rw [← hw0]; exact (Boxed.new w _ _).alloc _
  have b4 : Boxed w0 (w.heap.size + 1) 4 (.bool false) := by
    rw [← hw0]; have := Boxed.new (w.alloc (.cells #[.int .i64 z] 3)) 4 (.bool false); rwa [World.size_alloc] at this
  have HW0 := Lib.hid hw0
  have HS0 := Lib.hid hs0
  clear hw0 hs0
  gi_wp2_with fail
  rw [HW0.out]
  refine ⟨trivial, ?_⟩
  refine (callsIn_wide.2 (cut_calls (.slice A len cap) bs (by rw [HL.out]; omega) w0 (HT.out.below hB0) (HI.out.on hB0))).mono ?_
  rintro e w1 ⟨v1, ys, k, rfl, hTo, hrow1, hfine1, B1⟩
  have hB1 := hB0.trans (B1.mono hB0.size)
  have b3' : Boxed w1 w.heap.size 3 (.int .i64 z) := (B1.block _ b3.lt).trans b3
  have b4' : Boxed w1 (w.heap.size + 1) 4 (.bool false) := (B1.block _ b4.lt).trans b4
  have rows1 := rows_of hrow1 hfine1
  obtain ⟨A1, c1, rfl⟩ := row_form hrow1
  obtain ⟨l1, hl1⟩ : ∃ l, ys.length = l := ⟨_, rfl⟩
  rw [hl1] at rows1 ⊢
  have HL1 := Lib.hid hl1
  have HTo := Lib.hid hTo
  have HR1 := Lib.hid rows1
  have HB3 := Lib.hid b3'
  have HB4 := Lib.hid b4'
  clear b3 b4 b3' b4' hrow1 hfine1 B1 rows1 hTo hl1
  have c2 := refcut_calls (.slice A len cap) bs (by rw [HL.out]; omega) w1 (HI.out.on hB1)
  have C2 := Lib.hid c2
  clear c2
  gi_wp2_with fail
  refine ⟨trivial, ?_⟩
  refine (callsIn_wide.2 C2.out).mono ?_
  rintro e w2 ⟨v2, zs, k2, rfl, hTo2, hrow2, hfine2, B2⟩
  obtain ⟨hyz, rfl⟩ := told_all HTo.out.1 HTo.out.2 hTo2.1 hTo2.2
  have hB2 := hB1.trans (B2.mono hB1.size)
  have hrows1 := HR1.out.on B2
  rw [hyz] at hrows1
  have b3' : Boxed w2 w.heap.size 3 (.int .i64 z) := (B2.block _ HB3.out.lt).trans HB3.out
  have b4' : Boxed w2 (w.heap.size + 1) 4 (.bool false) := (B2.block _ HB4.out.lt).trans HB4.out
  obtain ⟨A2, c2, rfl⟩ := row_form hrow2
  have hzlen := HTo.out.1.le.2
  rw [hyz, bytesOf_length] at hzlen
  have hkl := HTo.out.1.le.1
  rw [HL.out] at hkl
  obtain ⟨l2, hl2⟩ : ∃ l, zs.length = l := ⟨_, rfl⟩
  rw [hl2] at hrow2 hzlen ⊢
  have HL2 := Lib.hid hl2
  obtain ⟨wb, hwb⟩ : ∃ wb, w2.alloc (.cells #[.slice A2 l2 c2] 36) = wb := ⟨_, rfl⟩
  have hBb : Below w2.heap.size w2 wb := by rw [← hwb]; exact (Below.refl _ w2).alloc (Nat.le_refl _) _
  have b7 : Boxed wb w2.heap.size 36 (.slice A2 l2 c2) := by rw [← hwb]; exact Boxed.new w2 _ _
  have hwT := HT.out.below (hB2.trans (hBb.mono hB2.size))
  have ck := known_calls wb hwT
  have CK := Lib.hid ck
  have HWB := Lib.hid hwb
  have HB3' := Lib.hid b3'
  have HB4' := Lib.hid b4'
  have HROW2 := Lib.hid hrow2
  have HROWS1 := Lib.hid hrows1
  have HF2 := Lib.hid hfine2
  have HYZ := Lib.hid hyz
  have HTo2 := Lib.hid hTo2
  clear ck hwb hwT hrow2 hfine2 hrows1 b3' b4' hyz hTo2 HB3 HB4 HR1 C2 B2 hl2 HTo
  gi_wp2_with fail
  rw [HWB.out]
  refine ⟨trivial, ?_⟩
  refine (callsIn_wide.2 CK.out).mono ?_
  rintro e w3 ⟨rfl, B3⟩
  have B23 := hBb.trans (B3.mono hBb.size)
  have b7' : Boxed w3 w2.heap.size 36 (.slice A2 l2 c2) := (B3.block _ b7.lt).trans b7
  have hc7 := b7'.cell
  have hrow3 : w3.ownsRow w1.heap.size 22 1 (.slice A2 l2 c2) l2 (zs.map (·.1)) := HROW2.out.kept (grown_of_below B23) (by cases A2 <;> simp [Value.ownBlock])
  have hfine3 : ∀ x ∈ zs, Fine w1.heap.size x w3 := fun x hx => ⟨(HF2.out x hx).1.below B23, (HF2.out x hx).2⟩
  have hrl : (bytesOf zs).length ≤ 140737488351232 := by rw [bytesOf_length, HL2.out]; omega
  have cs := samelist_true (.slice A1 l1 c1) (.slice A2 l2 c2) (bytesOf zs) hrl w3 (HROWS1.out.on B23) (rows_of (by rw [HL2.out]; exact hrow3) hfine3)
  have CS := Lib.hid cs
  have HROW3 := Lib.hid hrow3
  have HF3 := Lib.hid hfine3
  have HB7 := Lib.hid b7'
  clear cs hrow3 hfine3 hrl CK HROWS1 b7' b7 HROW2 HF2
  gi_wp2_with fail
  refine ⟨trivial, ?_⟩
  refine (callsIn_wide.2 CS.out).mono ?_
  rintro e w4 ⟨rfl, B4⟩
  have B24 := B23.trans (B4.mono B23.size)
  have hs2 : w.heap.size + 2 ≤ w2.heap.size := HB4'.out.lt
  have hs24 : w2.heap.size + 1 ≤ w4.heap.size := by have := B4.size; have := HB7.out.lt; omega
  have e3 : Boxed w4 w.heap.size 3 (.int .i64 z) := (B24.block _ HB3'.out.lt).trans HB3'.out
  have e4 : Boxed w4 (w.heap.size + 1) 4 (.bool false) := (B24.block _ HB4'.out.lt).trans HB4'.out
  have e7 : Boxed w4 w2.heap.size 36 (.slice A2 l2 c2) := (B4.block _ HB7.out.lt).trans HB7.out
  have hrow4 : w4.ownsRow w1.heap.size 22 1 (.slice A2 l2 c2) l2 (zs.map (·.1)) := HROW3.out.kept (grown_of_below B4) (by cases A2 <;> simp [Value.ownBlock])
  have hfine4 : ∀ x ∈ zs, Fine w1.heap.size x w4 := fun x hx => ⟨(HF3.out x hx).1.below B4, (HF3.out x hx).2⟩
  have hc3 := e3.cell
  have hf3 := e3.frozen
  have HE4 := Lib.hid e4
  have HE7 := Lib.hid e7
  have HE3 := Lib.hid e3
  have HROW4 := Lib.hid hrow4
  have HF4 := Lib.hid hfine4
  clear e4 e7 hrow4 hfine4 HROW3 HF3 HB7 HB3' HB4' CS e3
  gi_wp2_with fail
  rw [HMZ.out]
  obtain ⟨M, hM⟩ : ∃ M, 1 + m = M := ⟨_, rfl⟩
  have hwm : wrap64 (1 + (m : Int)) = (M : Int) := by rw [IntWalk.wrap64_in _ (by omega)]; omega
  rw [hwm]
  clear hwm
  obtain ⟨w5, hw5⟩ : ∃ w5, (w4.setCell ⟨w.heap.size, 0, none⟩ (.int .i64 (M : Nat))).alloc (.cells #[.int .i64 0] 3) = w5 := ⟨_, rfl⟩
  rw [hw5]
  have hs5 : w5.heap.size = w4.heap.size + 1 := by rw [← hw5]; simp
  have f3 : Boxed w5 w.heap.size 3 (.int .i64 (M : Nat)) := by rw [← hw5]; exact (HE3.out.set _).alloc _
  have f4 : Boxed w5 (w.heap.size + 1) 4 (.bool false) := by rw [← hw5]; exact (HE4.out.other (by omega) _).alloc _
  have f7 : Boxed w5 w2.heap.size 36 (.slice A2 l2 c2) := by rw [← hw5]; exact (HE7.out.other (by omega) _).alloc _
  have f9 : Boxed w5 w4.heap.size 3 (.int .i64 0) := by
    rw [← hw5]; have := Boxed.new (w4.setCell ⟨w.heap.size, 0, none⟩ (.int .i64 (M : Nat))) 3 (.int .i64 0)
    rwa [show (w4.setCell ⟨w.heap.size, 0, none⟩ (.int .i64 (M : Nat))).heap.size = w4.heap.size by simp] at this
  have hrow5 := HROW4.out.kept (grownBy_setCell' w4 w.heap.size (.int .i64 (M : Nat))) (.inr (HE3.out.not_row (by decide) HROW4.out).symm)
  have hfine5 : ∀ x ∈ zs, Fine w1.heap.size x (w4.setCell ⟨w.heap.size, 0, none⟩ (.int .i64 (M : Nat))) := fun x hx => by
    have h := HF4.out x hx
    exact ⟨h.1.kept (grownBy_setCell' w4 w.heap.size _) (h.1.cells_of HE3.out (by decide)), h.2⟩
  have hB5 : Below w.heap.size w w5 := by
    rw [← hw5]
    have h := ((hB2.trans (B24.mono hB2.size)).setCell (p := ⟨w.heap.size, 0, none⟩) (Nat.le_refl _) (.int .i64 (M : Nat)))
    exact h.alloc h.size _
  have hrows4 := rows_of (by rw [HL2.out]; exact hrow5) hfine5
  rw [show (w4.setCell ⟨w.heap.size, 0, none⟩ (.int .i64 (M : Nat))).heap.size = w4.heap.size by simp] at hrows4
  have hrows5 : ByteRows w4.heap.size w5 (.slice A2 l2 c2) (bytesOf zs) := by
    rw [← hw5]; exact hrows4.below ((Below.refl _ _).alloc (by simp) _)
  have ca := all_in (n - 1) (by omega) (.slice A len cap) bs (by rw [HL.out]; omega) w5 (HI.out.on hB5)
  have CA := Lib.hid ca
  have hs4 : w.heap.size + 2 ≤ w4.heap.size := by omega
  have HS5 := Lib.hid hs5
  have HF3 := Lib.hid f3
  have HF4' := Lib.hid f4
  have HF7 := Lib.hid f7
  have HF9 := Lib.hid f9
  have HR5 := Lib.hid hrows5
  clear hw5 f3 f4 f7 f9 hrow5 hfine5 hrows4 hrows5 ca HE3 HE4 HE7 HROW4 HF4 hc3 hf3 hs5
  refine ⟨trivial, ?_⟩
  refine CA.out.mono ?_
  rintro e w6 ⟨v6, Bx, rfl, hbx, hO6, hlo, B6⟩
  have hs56 := B6.size
  have hs5 := HS5.out
  have hB6 := hB5.trans (B6.mono hB5.size)
  have hRd : Reads w4.heap.size w5.heap.size w6.heap.size Bx v6 bs w6 := ⟨HT.out.below hB6, hbx, hO6, Nat.le_refl _, by have := HT.out.lt; omega, hlo, hbx.lt, fun k hk => (hO6.1.lt k hk).2⟩
  have g3 : Boxed w6 w.heap.size 3 (.int .i64 (M : Nat)) := (B6.block _ HF3.out.lt).trans HF3.out
  have g4 : Boxed w6 (w.heap.size + 1) 4 (.bool false) := (B6.block _ HF4'.out.lt).trans HF4'.out
  have g7 : Boxed w6 w2.heap.size 36 (.slice A2 l2 c2) := (B6.block _ HF7.out.lt).trans HF7.out
  have g9 : Boxed w6 w4.heap.size 3 (.int .i64 0) := (B6.block _ HF9.out.lt).trans HF9.out
  have hrows6 : ByteRows w4.heap.size w6 (.slice A2 l2 c2) (bytesOf zs) := HR5.out.below (B6.mono (by omega))
  have HRd := Lib.hid hRd
  have HG3 := Lib.hid g3
  have HG4 := Lib.hid g4
  have HG7 := Lib.hid g7
  have HG9 := Lib.hid g9
  have HR6 := Lib.hid hrows6
  clear hRd g3 g4 g7 g9 hrows6 HF3 HF4' HF7 HF9 HR5 CA hbx hO6 hs5
  gi_wp2_with fail
  have hs5 := HS5.out
  refine wpIn_rangeFunc_told rfl h1 (gf := 33) (lb := #[.pointer (some ⟨Bx, 0, none⟩)]) rfl trivial (enters_of Tryd.func33 (by kernel_rfl) rfl)
    (all_stops (n - 1) (by omega) w4.heap.size w5.heap.size Bx v6 bs (by rw [HL.out]; omega) w6 HRd.out) Keeps.trans (keeps_b (by omega) (Nat.le_refl _)) (Below.refl _ _) (fun _ => rfl)
    (fun pre W => Boxed W w4.heap.size 3 (.int .i64 (pre.length : Nat)) ∧ (pre.length < M ∧ Below w4.heap.size w6 W))
    (fun c pre W => Boxed W w4.heap.size 3 (.int .i64 (pre.length : Nat)) ∧ ((c = .exit 0 ∧ pre.length = M) ∧ Below w4.heap.size w6 W))
    (OwnFrom.and ((boxed_own w4.heap.size 3 (fun pre : List Piece => .int .i64 (pre.length : Nat))).from _) (OwnFrom.and (ownFrom_pure _ (fun pre : List Piece => pre.length < M)) (ownFrom_below (by omega) (by omega))))
    (fun c => OwnFrom.and ((boxed_own w4.heap.size 3 (fun pre : List Piece => .int .i64 (pre.length : Nat))).from _) (OwnFrom.and (ownFrom_pure _ (fun pre : List Piece => c = .exit 0 ∧ pre.length = M)) (ownFrom_below (by omega) (by omega))))
    (fun x => Own.from (fun _ A B row hs hg hr => fine_own w6.heap.size x A B row hs hg hr) _)
    ⟨HG9.out, by show 0 < M; omega, Below.refl _ _⟩
    (fun x => { tmps := List.toArray ((.slice A len cap) :: (.int .i64 z) :: undef :: (.pointer (some ⟨w.heap.size, 0, none⟩)) :: (.pointer (some ⟨w.heap.size + 1, 0, none⟩)) :: (.slice A1 l1 c1) :: (.int .i64 k) :: (.pointer (some ⟨w2.heap.size, 0, none⟩)) :: (.int .i64 k) :: (.pointer (some ⟨w4.heap.size, 0, none⟩)) :: x.1 :: (.tuple #[.slice A1 l1 c1, .int .i64 k]) :: (.slice A len cap) :: (.tuple #[.slice A1 l1 c1, .int .i64 k]) :: (.slice A1 l1 c1) :: (.int .i64 k) :: (.tuple #[.slice A2 l2 c2, .int .i64 k]) :: (.slice A len cap) :: (.tuple #[.slice A2 l2 c2, .int .i64 k]) :: (.slice A2 l2 c2) :: (.int .i64 k) :: (.bool true) :: (.bool false) :: (.bool false) :: (.int .i64 k) :: (.int .i64 k) :: (.bool false) :: (.bool false) :: (.bool false) :: (.slice A1 l1 c1) :: (.slice A2 l2 c2) :: (.bool true) :: (.bool false) :: (.bool false) :: (.int .i64 z) :: (.int .u64 (IntKind.u64.wrap z)) :: (.int .u64 ((IntKind.u64.wrap z).tmod 8)) :: (.int .i64 (m : Nat)) :: (.int .i64 (M : Nat)) :: (.slice A len cap) :: (.func (.func 33) #[] #[.pointer (some ⟨Bx, 0, none⟩)]) :: x.1 :: undef :: undef :: undef :: undef :: undef :: undef :: undef :: undef :: undef :: undef :: undef :: undef :: undef :: undef :: undef :: undef :: undef :: undef :: undef :: undef :: undef :: undef :: undef :: undef :: []), defers := [] }) ?assign ?body ?done ?stop
  case assign =>
    intro l x W K hK
    gi_wp2
    exact hK
  case body =>
    rintro l pre ⟨xv, xb⟩ W ⟨h9, hlt, hBW⟩ ⟨hx, hxl⟩ ⟨kk, hTok⟩ -
    have hdn := told_done hTok HTo2.out.1 HTo2.out.2
    rw [bytesOf_snoc] at hdn
    simp only [List.length_append, bytesOf_length, List.length_cons, List.length_nil, HL2.out] at hdn
    obtain ⟨hle2, hpre⟩ := hdn
    have hxb : xb = (bytesOf zs).getD pre.length [] := by
      have h := congrArg (fun q => q.getD pre.length []) hpre
      simp only [List.getD_eq_getElem?_getD] at h
      rw [List.getElem?_append_right (by rw [bytesOf_length]; exact Nat.le_refl _), bytesOf_length, Nat.sub_self, List.getElem?_take, if_pos (by omega)] at h
      simpa [List.getD_eq_getElem?_getD] using h
    have h3W : Boxed W w.heap.size 3 (.int .i64 (M : Nat)) := (hBW.block _ (by omega)).trans HG3.out
    have h7W : Boxed W w2.heap.size 36 (.slice A2 l2 c2) := (hBW.block _ (by omega)).trans HG7.out
    have hrowsW := HR6.out.below hBW
    obtain ⟨b0, o0, rfl, hb0, hcs⟩ := hrowsW.cells (by omega)
    obtain ⟨vi, hvi, hIi⟩ := hcs pre.length (by omega)
    rw [← hxb] at hIi
    have cS := same_true xv vi xb W (show OwnB W w6.heap.size 5 xv xb from hx).bytes hIi
    obtain ⟨A5, c5, rfl⟩ := hIi.form
    obtain ⟨A6, c6, rfl⟩ := (show OwnB W w6.heap.size 5 xv xb from hx).bytes.form
    obtain ⟨xl, hxle⟩ : ∃ xl, xb.length = xl := ⟨_, rfl⟩
    rw [hxle] at hvi cS ⊢
    have CS := Lib.hid cS
    have hc9 := h9.cell
    have hf9 := h9.frozen
    have hc7 := h7W.cell
    have hc3 := h3W.cell
    have hn3 : 1 ≤ n - 1 - 1 := by omega
    obtain ⟨pl, hpl⟩ : ∃ pl, pre.length = pl := ⟨_, rfl⟩
    rw [hpl] at hlt hle2 hvi hc9 h9
    have hplI : (pl : Int) < (l2 : Int) := by omega
    have hmix : Tryd.prog.follows .mixedOrders = true := by kernel_rfl
    have HPL := Lib.hid hpl
    have H9 := Lib.hid h9
    clear hpre hxb hrowsW hcs hIi hTok hx hxl cS hpl h9 hxle h3W h7W
    by_cases hM : pl + 1 = M
    · have hMb : ((pl : Int) + 1 == (M : Int)) = true := by rw [beq_iff_eq]; omega
      gi_wp2_with fail
      refine ⟨trivial, ?_⟩
      refine (CallsIn.inRound l (callsIn_wide.2 CS.out)).mono ?_
      rintro e W5 ⟨rfl, rfl⟩
      gi_wp2
      refine ⟨KeepsOthers.setCell _ _ _, ?_, ⟨rfl, by simp [HPL.out]; omega⟩, hBW.setCell (p := ⟨w4.heap.size, 0, none⟩) (Nat.le_refl _) _⟩
      have h := H9.out.set (.int .i64 ((pl : Int) + 1))
      simpa [HPL.out] using h
    · have hMb : ((pl : Int) + 1 == (M : Int)) = false := by rw [beq_eq_false_iff_ne]; omega
      gi_wp2_with fail
      refine ⟨trivial, ?_⟩
      refine (CallsIn.inRound l (callsIn_wide.2 CS.out)).mono ?_
      rintro e W5 ⟨rfl, rfl⟩
      gi_wp2
      refine ⟨KeepsOthers.setCell _ _ _, Keeps.setBox _ (Nat.le_refl _) (by omega) _, ?_, by simp [HPL.out]; omega, hBW.setCell (p := ⟨w4.heap.size, 0, none⟩) (Nat.le_refl _) _⟩
      have h := H9.out.set (.int .i64 ((pl : Int) + 1))
      simpa [HPL.out] using h
  case done =>
    rintro D xs W hD ⟨k3, hT3, hD3⟩ ⟨h9, hlt, hBW⟩ hK
    obtain ⟨hxz, -⟩ := told_all hT3 hD3 HTo2.out.1 HTo2.out.2
    have hxl : xs.length = l2 := by
      have h := congrArg List.length hxz
      rwa [bytesOf_length, bytesOf_length, HL2.out] at h
    rw [hxl] at h9 hlt
    have h3W : Boxed W w.heap.size 3 (.int .i64 (M : Nat)) := (hBW.block _ (by omega)).trans HG3.out
    have h4W : Boxed W (w.heap.size + 1) 4 (.bool false) := (hBW.block _ (by omega)).trans HG4.out
    have h7W : Boxed W w2.heap.size 36 (.slice A2 l2 c2) := (hBW.block _ (by omega)).trans HG7.out
    have hc9 := h9.cell
    have hc3 := h3W.cell
    have hc7 := h7W.cell
    have hc4 := h4W.cell
    have hf4 := h4W.frozen
    have hmin : min (M : Int) (l2 : Int) = (l2 : Int) := by omega
    have H4 := Lib.hid h4W
    have HK := Lib.hid hK
    clear hxz hxl hT3 hD3 h9 h3W h4W h7W hK
    gi_wp2
    have hK' := (KeepsOthers.setCell W ⟨w.heap.size + 1, 0, none⟩ (.bool true)).same D _ HK.out rfl
    refine ⟨by simp, .inl ⟨_, _, rfl, run_takeDeferred hK', ?_⟩⟩
    have hc5 := cell_kept (H4.out.set (.bool true)).cell (grownBy_putObj' _ D (.deferred none)) (fun r e => by cases e; exact ⟨_, hK', rfl⟩)
    have hBW2 : Below w.heap.size w W := hB6.trans (hBW.mono (by omega))
    refine ⟨.bool true, ?_, rfl, (hBW2.setCell (p := ⟨w.heap.size + 1, 0, none⟩) (by simp) _).trans (belowK_b (w := w) (Nat.le_refl _) _ D _ _ (by omega) hK' rfl rfl)⟩
    simp [results, Tryd.f5, go_sem, hc5]
  case stop =>
    rintro D c pre W hD ⟨k3, hT3⟩ ⟨h9, ⟨rfl, hpm⟩, hBW⟩ hK
    have hdn := told_done hT3 HTo2.out.1 HTo2.out.2
    rw [bytesOf_length, bytesOf_length, HL2.out] at hdn
    have hle := hdn.1
    rw [hpm] at h9 hle
    have h3W : Boxed W w.heap.size 3 (.int .i64 (M : Nat)) := (hBW.block _ (by omega)).trans HG3.out
    have h4W : Boxed W (w.heap.size + 1) 4 (.bool false) := (hBW.block _ (by omega)).trans HG4.out
    have h7W : Boxed W w2.heap.size 36 (.slice A2 l2 c2) := (hBW.block _ (by omega)).trans HG7.out
    have hc9 := h9.cell
    have hc3 := h3W.cell
    have hc7 := h7W.cell
    have hc4 := h4W.cell
    have hf4 := h4W.frozen
    have hmin : min (M : Int) (l2 : Int) = (M : Int) := by omega
    have H4 := Lib.hid h4W
    have HK := Lib.hid hK
    clear hdn hpm hT3 h9 h3W h4W h7W hK
    gi_wp2
    have hK' := (KeepsOthers.setCell W ⟨w.heap.size + 1, 0, none⟩ (.bool true)).same D _ HK.out rfl
    refine ⟨by simp, .inl ⟨_, _, rfl, run_takeDeferred hK', ?_⟩⟩
    have hc5 := cell_kept (H4.out.set (.bool true)).cell (grownBy_putObj' _ D (.deferred none)) (fun r e => by cases e; exact ⟨_, hK', rfl⟩)
    have hBW2 : Below w.heap.size w W := hB6.trans (hBW.mono (by omega))
    refine ⟨.bool true, ?_, rfl, (hBW2.setCell (p := ⟨w.heap.size + 1, 0, none⟩) (by simp) _).trans (belowK_b (w := w) (Nat.le_refl _) _ D _ _ (by omega) hK' rfl rfl)⟩
    simp [results, Tryd.f5, go_sem, hc5]

theorem frameCuts_law (sv : Value) (bs : List Nat) (hsmall : bs.length ≤ 1048576) (z : Int) (w : World) (hT : Tab w) (hI : Bytes w.heap.size w sv bs) :
    Calls Tryd.prog 5 #[sv, .int .i64 z] w fun e W' => e = .returned (.bool true) ∧ Below w.heap.size w W' :=
  callsIn_wide.1 (frameCuts_in 9 (by omega) sv bs hsmall z w hT hI)

end Go.Proofs.YtmflcpkkeejjpaaDoor.Frame
