/-
  Put together out of texts of one chain: what they hold stands ahead of each.
-/
import Derived.Test.YtnhkpemajknfnaaGreatDoorGSeglogHeads18
import Derived.Lib.SlBytesConst
/-
  Layer 6's known: three entries in a log whose segments are full behind two.
-/
namespace Go.Proofs.YtnhkpemajknfnaaGreatDoor.Seglog
open Go Go.RowKit Go.Lib Go.Sort Go.Proofs.YtnhkpemajknfnaaGreatDoor.Law Go.Proofs.YtnhkpemajknfnaaGreatDoor.Disk Go.Proofs.YtnhkpemajknfnaaGreatDoor.Crc

/-- The log, with its segments as they are. -/
def KnL (w : World) (lb db : Nat) (wr : World) (L : List Sg) (K : List (List Nat)) (U M : Nat) : Prop :=
  ∃ Fr base v l D, Lg Fr w base lb db D logP 20 false v l wr ∧ Fine D logP l K 1000 U M ∧ DistL l ∧ l.map (·.1) = L

theorem kn_start {w W : World} {db : Nat} (h : Dk w db (DS.fresh 1000) W) :
    Calls Tryz.prog 12 #[.pointer (some ⟨db, 0, none⟩), .string ⟨#[108, 111, 103]⟩, .int .i64 20] W fun e W' => ∃ lb, e = .returned (.tuple #[.pointer (some ⟨lb, 0, none⟩), .int .i64 0]) ∧ KnL w lb db W' [] [] 0 0 := by
  have hD := Dx.of h
  refine (open_none hD ⟨#[108, 111, 103]⟩ log_right 20 (by decide) (noNames hD (Nat.zero_le _) (fun _ => rfl))).mono ?_
  rintro e W' ⟨lb, rfl, _, hL, _⟩
  exact ⟨lb, rfl, _, _, _, [], _, hL, Fine.fresh _ _, List.Pairwise.nil, rfl⟩

theorem lit_stay (Fr : Nat → Prop) (w wr : World) (cs : Array Value) (bs : List Nat) (n : Nat) (fz : Nat × Nat) (hn : bs.length = n) (hcs : cs.toList = vals bs) (h256 : ∀ x ∈ bs, x < 256) :
    Stay (Plus Fr wr (wr.alloc (.cells cs 5 fz))) w (wr.alloc (.cells cs 5 fz)) (.slice (some ⟨wr.heap.size, 0, none⟩) n n) bs := fun W' hk => by
  have h1 := hk wr.heap.size (.inr ⟨.inr ⟨Nat.le_refl _, by simp⟩, cs, _, fz, heap_alloc_new wr _, by decide, by decide, by decide⟩)
  rw [heap_alloc_new] at h1
  refine ⟨_, n, by rw [hn], by omega, (fun h => by cases h), h256, fun _ => ⟨wr.heap.size, 0, rfl, by simp, fun j hj => ?_⟩⟩
  have h2 := vals_get bs j hj
  rw [← hcs, Array.getElem?_toList] at h2
  simp only [World.cell?, h1, Nat.zero_add]
  exact h2

theorem KnL.append_calls {w wr : World} {lb db U M : Nat} {L : List Sg} {K : List (List Nat)} (h : KnL w lb db wr L K U M) (htab : Tab10 w) (hcrc : ∀ W', Below w.heap.size w W' → Tab W') (cs : Array Value) (bs : List Nat) (n : Nat) (fz : Nat × Nat)
    (hn : bs.length = n) (hcs : cs.toList = vals bs) (h256 : ∀ x ∈ bs, x < 256) (hlen : n ≤ 65536) (hU : U + (12 + n) ≤ 1000) (hM : M ≤ 1000) (hK : K.length ≤ 1000) :
    Calls Tryz.prog 19 #[.pointer (some ⟨lb, 0, none⟩), .slice (some ⟨wr.heap.size, 0, none⟩) n n] (wr.alloc (.cells cs 5 fz)) fun e Z => e = .returned (.tuple #[.int .i64 (K.length : Nat), .int .i64 0]) ∧ KnL w lb db Z (putL 20 L bs) (K ++ [bs]) (U + (12 + n)) (M + 1) := by
  obtain ⟨Fr, base, v, l, D, h1, h2, h3, rfl⟩ := h
  subst hn
  have hB : Below wr.heap.size wr (wr.alloc (.cells cs 5 fz)) := (Below.refl _ _).alloc (Nat.le_refl _) _
  refine (append_fine (h1.add hB) h2 h3 logP_size logP_right htab hcrc _ bs (lit_stay Fr w wr cs bs _ fz rfl hcs h256) hlen hU (by decide) (by omega) (by omega) (by decide)).mono ?_
  rintro e Z ⟨rfl, Fr2, v', l', D', _, _, g3, g4, g5, g6, _, _⟩
  exact ⟨rfl, Fr2, _, v', l', D', g3, g4, g5, g6⟩

theorem file2 : fileN logP 2 = ⟨#[108, 111, 103, 45, 50]⟩ := by decide +kernel

theorem KnL.read_calls {w wr : World} {lb db U M : Nat} {s0 : Sg} {y : En} {K : List (List Nat)} (h : KnL w lb db wr [s0, ⟨2, [y]⟩] K U M) (hy : y.fin = 13) :
    Calls Tryz.prog 11 #[.pointer (some ⟨db, 0, none⟩), .string ⟨#[108, 111, 103, 45, 50]⟩] wr fun e Z => (∃ A c, e = .returned (.tuple #[.slice A 13 c, .bool true])) ∧ KnL w lb db Z [s0, ⟨2, [y]⟩] K U M := by
  obtain ⟨Fr, base, v, l, D, h1, h2, h3, h4⟩ := h
  obtain ⟨q, hq, hq1⟩ : ∃ q ∈ l, q.1 = (⟨2, [y]⟩ : Sg) := by
    have : (⟨2, [y]⟩ : Sg) ∈ l.map (·.1) := by rw [h4]; simp
    obtain ⟨q, hq, e⟩ := List.mem_map.1 this
    exact ⟨q, hq, e⟩
  obtain ⟨h5, h6⟩ := h2.file q hq
  rw [hq1] at h5 h6
  have h7 : szO (D.now (fileN logP 2)) = 13 := by rw [h6]; show (some y.fin).getD 0 = 13; rw [hy]; rfl
  have h8 := h5.now
  rw [file2] at h7
  rw [show fileN logP (Sg.base ⟨2, [y]⟩) = fileN logP 2 from rfl, file2] at h8
  refine (h1.1.read ⟨#[108, 111, 103, 45, 50]⟩ (by show (5 : Nat) ≤ maxLen; decide)).mono ?_
  rintro e Z ⟨v1, rfl, hO, hB⟩
  obtain ⟨b, hb⟩ := Option.ne_none_iff_exists'.1 h8
  rw [hb] at hO h7 ⊢
  have hO : OwnB Z wr.heap.size 5 v1 b := hO
  have hbl : b.length = 13 := h7
  obtain ⟨A, c, rfl⟩ := hO.bytes.form
  rw [hbl]
  exact ⟨⟨A, c, rfl⟩, Fr, base, v, l, D, ⟨Dx.below h1.1 hB, LogIn.same h1.2 (Dx.sameOn h1.1 hB)⟩, h2, h3, h4⟩

theorem len_two {α : Type} : ∀ l : List α, l.length = 2 → ∃ a b, l = [a, b]
  | [a, b], _ => ⟨a, b, rfl⟩
theorem KnL.cut_calls {w wr : World} {lb db U M : Nat} {s0 : Sg} {y : En} {K : List (List Nat)} (h : KnL w lb db wr [s0, ⟨2, [y]⟩] K U M) (hs : s0.next = 2) (htab : Tab10 w) (hK : K.length = 3) (hM : M ≤ 1000) :
    Calls Tryz.prog 25 #[.pointer (some ⟨lb, 0, none⟩), .int .i64 2] wr fun e Z => e = .returned (.int .i64 0) ∧ ∃ Fr, LgL logP 20 Fr w lb db Z K 2 1 := by
  obtain ⟨Fr, base, v, l, D, h1, h2, h3, h4⟩ := h
  have hK0 : K ≠ [] := by rintro rfl; simp at hK
  have hL := h2.left hK0
  obtain ⟨G, DF, e1, e2, e3, e4⟩ := hL.cut 2 (by rw [h2.first]; omega)
  obtain ⟨x0, x1, rfl⟩ : ∃ x0 x1, l = [x0, x1] := len_two l (by have := congrArg List.length h4; simpa using this)
  simp only [List.map_cons, List.map_nil, List.cons.injEq, and_true] at h4
  have hG : G = 1 := by
    rw [headGo, if_pos (by rw [h4.1, hs]; exact Nat.le_refl _)] at e1
    split at e1
    · simp only [headGo, Prod.mk.injEq] at e1
      omega
    · simp only [Prod.mk.injEq] at e1
      rename_i h5
      exact absurd e1.2.1 h5
  subst hG
  have hle : ∀ q ∈ [x0, x1], q.1.next ≤ 3 := fun q hq => by have := h2.le q hq; omega
  refine (cutHeadL_calls h1 logP_size (by have := h2.made; simp; omega) (fun q hq => by have := hle q hq; unfold Sg.next at this; omega) (fun q hq => by have := hle q hq; omega) (by simp) (by simp) (fun A n c hv => ?_) htab 2 (by rw [h2.first]; omega) (by rw [h2.next, hK]; omega) rfl e2 1 e1).mono ?_
  · have := h1.2.segs.1
    rw [hv] at this
    rcases this.2 with ⟨h5, _⟩ | ⟨g, o, cap, cur, h5, _, _, _, h6, _⟩
    · simp only [Value.slice.injEq] at h5; omega
    · simp only [Value.slice.injEq] at h5
      simp only [maxLen] at h6
      omega
  · rintro e Z ⟨rfl, v', g5, _⟩
    exact ⟨rfl, Fr, base, v', _, DF, _, g5, e3, by omega, by simp [firstL, h4.2]⟩

set_option maxRecDepth 100000 in
set_option maxHeartbeats 4000000 in
theorem known_calls (w : World) (hT : Tab w) (hT10 : Tab10 w) : Calls Tryz.prog 7 #[] w fun e W => e = .returned (.bool true) ∧ Below w.heap.size w W := by
  have kc := fun (w : World) (C : Array Value) (n c : Nat) => Lib.run_convert_bytes_const (P := Tryz.prog) w 29 5 C n c Tryz.underlying29 Tryz.underlying5
  have HCRC : Hid (∀ W', Below w.heap.size w W' → Tab W') := Lib.hid fun W' hB => hT.below hB
  have HT10 := Lib.hid hT10
  clear hT hT10
  go_enter Tryz.func7, Tryz.ntmps7
  go_wp2_with fail
  refine (new_dk 1000 (by decide) w w (Below.refl _ _)).mono ?_
  rintro e w1 ⟨db, rfl, hD⟩
  have CO := Lib.hid (kn_start hD)
  clear hD
  go_wp2_with fail
  refine CO.out.mono ?_
  clear CO
  rintro e w2 ⟨lb, rfl, hK⟩
  have CA := Lib.hid (hK.append_calls HT10.out HCRC.out #[.int .u8 97, .int .u8 98, .int .u8 99] [97, 98, 99] 3 (3, 4) rfl rfl (by decide) (by decide) (by decide) (by decide) (by decide))
  clear hK
  go_wp2_with fail
  refine CA.out.mono ?_
  clear CA
  rintro e w3 ⟨rfl, hK⟩
  have CA := Lib.hid (hK.append_calls HT10.out HCRC.out #[.int .u8 100] [100] 1 (1, 2) rfl rfl (by decide) (by decide) (by decide) (by decide) (by decide))
  clear hK
  go_wp2_with fail
  refine CA.out.mono ?_
  clear CA
  rintro e w4 ⟨rfl, hK⟩
  have CA := Lib.hid (hK.append_calls HT10.out HCRC.out #[.int .u8 101] [101] 1 (1, 2) rfl rfl (by decide) (by decide) (by decide) (by decide) (by decide))
  clear hK
  go_wp2_with fail
  refine CA.out.mono ?_
  clear CA
  rintro e w5 ⟨rfl, hK⟩
  have hput : putL 20 (putL 20 (putL 20 [] [97, 98, 99]) [100]) [101] = [⟨0, [⟨[97, 98, 99], 15⟩, ⟨[100], 28⟩]⟩, ⟨2, [⟨[101], 13⟩]⟩] := by simp [putL, Sg.put, Sg.size, Sg.next, frmLen]
  rw [hput] at hK
  have CR := Lib.hid (hK.read_calls rfl)
  clear hK hput
  go_wp2_with fail
  refine CR.out.mono ?_
  clear CR
  rintro e w6 ⟨⟨rA, rc, rfl⟩, hK⟩
  have CC := Lib.hid (hK.cut_calls rfl HT10.out rfl (by decide))
  clear hK
  go_wp2_with fail
  refine CC.out.mono ?_
  clear CC
  rintro e w7 ⟨rfl, Fr, hL⟩
  have CF := Lib.hid (hL.first_calls (by decide))
  have HL := Lib.hid hL
  clear hL
  go_wp2_with fail
  refine CF.out.mono ?_
  clear CF
  rintro e w8 ⟨rfl, hB⟩
  have HF := Lib.hid (HL.out.below hB).low
  clear hB HL
  go_wp2_with fail
  go_ret
  exact ⟨rfl, HF.out⟩

end Go.Proofs.YtnhkpemajknfnaaGreatDoor.Seglog
