/-
  Contract of the model's taken.
-/
import Derived.Test.YtmfndimejnbgkaaModelPass
namespace Go.Proofs.Ytmfndimejnbgkaa.Model
open Go Go.RowKit Go.Proofs.Ytmfndimejnbgkaa.Law Go.Proofs.Ytmfndimejnbgkaa.Graph Go.Proofs.Ytmfndimejnbgkaa.Fold

abbrev rcObj (r : Rc) : Obj := .cells #[.int .i64 r.producer, .int .i64 r.seq, .int .i64 r.part, .string r.key, .int .u32 (r.val : Nat)] 39
theorem box5 {W : World} {b : Nat} {r : Rc} (h : W.heap[b]? = some (rcObj r)) : W.cell? ⟨b, 0, none⟩ = some (.int .i64 r.producer) ∧ W.cell? ⟨b, 1, none⟩ = some (.int .i64 r.seq) ∧ W.cell? ⟨b, 2, none⟩ = some (.int .i64 r.part) ∧ W.cell? ⟨b, 3, none⟩ = some (.string r.key) ∧ W.cell? ⟨b, 4, none⟩ = some (.int .u32 (r.val : Nat)) := by
  refine ⟨?_, ?_, ?_, ?_, ?_⟩ <;> simp [World.cell?, h]
theorem takenN_take {a : Int} {l : List Rc} {k : Nat} {r : Rc} (h : l[k]? = some r) : takenN a (l.take (k + 1)) = takenN a (l.take k) ++ (if a = -1 ∨ a = r.part then [⟨r.key, r.val⟩] else []) := by
  unfold takenN
  rw [Graph.take_snoc h, List.filter_append, List.map_append]
  congr 1
  by_cases h0 : a = -1 ∨ a = r.part
  · rw [if_pos h0]; simp [h0]
  · rw [if_neg h0]; simp [h0]
theorem takenN_len (a : Int) (l : List Rc) : (takenN a l).length ≤ l.length := by
  unfold takenN
  rw [List.length_map]
  exact List.length_filter_le _ _

set_option maxRecDepth 100000 in
set_option maxHeartbeats 4000000 in
theorem taken_calls (x : Opr) (u : Value) (l : List Rc) (hlen : l.length * 24 ≤ 140737488355328) (v : Value) (w : World) (h : OldRc w.heap.size w v l) :
    Calls Try.prog 63 #[opV x u, v] w (RetP (takenN x.arg l) w) := by
  obtain ⟨A, cap, rfl, _⟩ := h.form
  obtain ⟨n, hN⟩ : ∃ n, l.length = n := ⟨_, rfl⟩
  rw [hN] at h hlen ⊢
  obtain ⟨q, hq⟩ : ∃ q, w.heap.size = q := ⟨_, rfl⟩
  obtain ⟨W1, hW1⟩ : ∃ W1, w.alloc (opObj x u) = W1 := ⟨_, rfl⟩
  have hB1 : Below q w W1 := by rw [← hW1, ← hq]; exact alloc_low _ _
  have hbx : W1.heap[q]? = some (opObj x u) := by rw [← hW1, ← hq]; exact heap_alloc_new w _
  have hs1 : q + 1 ≤ W1.heap.size := by rw [← hW1, ← hq]; simp
  have HW := Lib.hid hW1
  have HB1 := Lib.hid hB1
  have HX1 := Lib.hid hbx
  have HQ := Lib.hid hq
  have HN := Lib.hid hN
  have HI := Lib.hid h
  have HLEN := Lib.hid hlen
  have hnn : n ≤ 5864062014805 := by omega
  clear hW1 hB1 hbx hN h hlen hq
  go_enter Try.func63, Try.ntmps63
  go_wp2_with fail
  rw [HW.out, HQ.out]
  go_loopw [5, 10] (fun c i wr => ∃ (k m cc : Nat) (Ac : Option Addr), i = .int .i64 k ∧ k ≤ n ∧ c = .slice Ac m cc ∧ Hid ((takenN x.arg (l.take k)).length = m) ∧ Hid (OwnP wr (q + 1) (.slice Ac m cc) (takenN x.arg (l.take k)) ∧ Below q w wr ∧ wr.heap[q]? = some (opObj x u) ∧ q + 1 ≤ wr.heap.size)) (fun _ i _ => n - (intOf i).toNat)
  case atStart => exact ⟨0, 0, 0, none, rfl, Nat.zero_le _, rfl, Lib.hid (by simp [takenN]), Lib.hid ⟨by rw [List.take_zero]; exact OwnTwo.nil _ _ _, HB1.out, HX1.out, hs1⟩⟩
  case round =>
    obtain ⟨k, m, cc, Ac, rfl, hk, rfl, HM, HO⟩ := hrel
    by_cases hlt : k < n
    · obtain ⟨p, hp⟩ : ∃ p, l[k]? = some p := ⟨_, List.getElem?_eq_getElem (by rw [HN.out]; exact hlt)⟩
      obtain ⟨hO, hB, hX, hs⟩ := HO.out
      obtain ⟨b, off, rfl, hb, hc⟩ := (RecsAt.low (HQ.out ▸ hB) HI.out).at (by omega)
      obtain ⟨c0, c1, c2, c3, c4⟩ := hc k p hp
      obtain ⟨W2, hW2⟩ : ∃ W2, wr.alloc (rcObj p) = W2 := ⟨_, rfl⟩
      have hB2 : Below wr.heap.size wr W2 := by rw [← hW2]; exact alloc_low _ _
      have hP2 : W2.heap[wr.heap.size]? = some (rcObj p) := by rw [← hW2]; exact heap_alloc_new wr _
      have hs2 : wr.heap.size < W2.heap.size := by rw [← hW2]; simp
      have hX2 : W2.heap[q]? = some (opObj x u) := (hB2.block q (by omega)).trans hX
      obtain ⟨⟨d0, d1, d2, d3, d4, d5, d6⟩, -⟩ := box7 hX2
      obtain ⟨e0, e1, e2, e3, e4⟩ := box5 hP2
      have hBq : Below q w W2 := hB.trans (hB2.mono (by omega))
      have hO2 : OwnP W2 (q + 1) (.slice Ac m cc) (takenN x.arg (l.take k)) := hO.below hB2
      have hkm := takenN_len x.arg (l.take k)
      rw [List.length_take, HM.out] at hkm
      have HK1 : Hid (k + 1 ≤ n) := Lib.hid hlt
      have HW2 := Lib.hid hW2
      have hst := takenN_take (a := x.arg) hp
      have HBq := Lib.hid hBq
      have HX2 := Lib.hid hX2
      by_cases hpass : x.arg = -1 ∨ x.arg = p.part
      · rw [if_pos hpass] at hst
        obtain ⟨A4, c5, W4, R4, O4, G4, hc4⟩ := hO2.put (by omega) ⟨p.key, p.val⟩ 41 (by rw [HM.out]; have := HLEN.out; omega)
        rw [HM.out] at R4 O4 hc4
        have hX4 : W4.heap[q]? = some (opObj x u) := (G4.block q (lt_of_some hX2) (ownP_lt hO2 (by omega))).trans hX2
        have HR4 := Lib.hid R4
        have HO4 : Hid (OwnP W4 (q + 1) (.slice A4 (m + 1) c5) (takenN x.arg (l.take (k + 1))) ∧ Below q w W4 ∧ W4.heap[q]? = some (opObj x u) ∧ q + 1 ≤ W4.heap.size) := Lib.hid ⟨by rw [hst]; exact O4, grown_below hBq G4 hO2 (by omega) (by omega), hX4, by have := G4.size; omega⟩
        have HM4 : Hid ((takenN x.arg (l.take (k + 1))).length = m + 1) := Lib.hid (by rw [hst, List.length_append, HM.out]; rfl)
        by_cases h1 : x.arg = -1
        · have g1 : (x.arg == -1) = true := by rw [beq_iff_eq]; exact h1
          clear hO hB hX hc hp hW2 hB2 hP2 hX2 hBq hO2 hst HO hb hkm h1 hpass R4 O4 G4 hX4 hc4
          go_upto_region 5 with fail
          rw [HW2.out]
          go_wp2_with (at_builtin; refine wpList_append_ran rfl _ _ _ rfl rfl rfl HR4.out ?_)
          go_roundw
          case rel => exact ⟨k + 1, m + 1, c5, A4, by go_num, HK1.out, rfl, HM4, HO4⟩
          case measure => have h := HK1.out; simp [intOf]; omega
        · have g1 : (x.arg == -1) = false := by rw [beq_eq_false_iff_ne]; exact h1
          have g2 : (x.arg == p.part) = true := by rw [beq_iff_eq]; exact hpass.resolve_left h1
          clear hO hB hX hc hp hW2 hB2 hP2 hX2 hBq hO2 hst HO hb hkm h1 hpass R4 O4 G4 hX4 hc4
          go_upto_region 5 with fail
          rw [HW2.out]
          go_wp2_with (at_builtin; refine wpList_append_ran rfl _ _ _ rfl rfl rfl HR4.out ?_)
          go_roundw
          case rel => exact ⟨k + 1, m + 1, c5, A4, by go_num, HK1.out, rfl, HM4, HO4⟩
          case measure => have h := HK1.out; simp [intOf]; omega
      · rw [if_neg hpass, List.append_nil] at hst
        have g1 : (x.arg == -1) = false := by rw [beq_eq_false_iff_ne]; exact fun e => hpass (.inl e)
        have g2 : (x.arg == p.part) = false := by rw [beq_eq_false_iff_ne]; exact fun e => hpass (.inr e)
        have HO4 : Hid (OwnP W2 (q + 1) (.slice Ac m cc) (takenN x.arg (l.take (k + 1))) ∧ Below q w W2 ∧ W2.heap[q]? = some (opObj x u) ∧ q + 1 ≤ W2.heap.size) := Lib.hid ⟨by rw [hst]; exact hO2, hBq, hX2, by omega⟩
        have HM4 : Hid ((takenN x.arg (l.take (k + 1))).length = m) := Lib.hid (by rw [hst]; exact HM.out)
        clear hO hB hX hc hp hW2 hB2 hP2 hX2 hBq hO2 hst HO hb hkm hpass
        go_upto_region 5 with fail
        rw [HW2.out]
        go_wp2_with fail
        go_roundw
        case rel => exact ⟨k + 1, m, cc, Ac, by go_num, HK1.out, rfl, HM4, HO4⟩
        case measure => have h := HK1.out; simp [intOf]; omega
    · obtain rfl : k = n := by omega
      obtain ⟨hO, hB, hX, hs⟩ := HO.out
      have hfin : RetP (takenN x.arg l) w (.returned (.slice Ac m cc)) wr := ⟨_, rfl, (by rw [List.take_of_length_le (by rw [HN.out]; exact Nat.le_refl _)] at hO; exact hO.base (by rw [HQ.out]; omega)), by rw [HQ.out]; exact hB⟩
      have HF := Lib.hid hfin
      clear hO hB hX hfin HO
      go_wp2_with fail
      go_ret
      exact HF.out

end Go.Proofs.Ytmfndimejnbgkaa.Model
