/-
  The walk of the law CrcSplits: whatever the rows of bytes, if they are together small enough to be put one behind the other, it returns true and nothing that lay has turned.
-/
import Derived.Test.YtbfjmphopnecdaaDoorCrcKnown
import Derived.Test.YtbfjmphopnecdaaDoorSame
import Derived.Test.YtbfjmphopnecdaaDoorByteRows
namespace Go.Proofs.YtbfjmphopnecdaaDoor.Crc
open Go.RowKit Go.Proofs.YtbfjmphopnecdaaDoor.Law

theorem extN_zero_nil : extN 0 [] = 0 := extN_nil 0

theorem sum_le (l : List Nat) (k : Nat) : (l.take k).sum ≤ l.sum := by
  conv => rhs; rw [← List.take_append_drop k l]
  rw [List.sum_append]; omega

theorem le_sum (l : List Nat) (x : Nat) (h : x ∈ l) : x ≤ l.sum := by
  induction l with
  | nil => cases h
  | cons y l ih =>
    simp only [List.sum_cons]
    rcases List.mem_cons.1 h with rfl | h
    · omega
    · have := ih h; omega

theorem getD_sum_le (bss : List (List Nat)) (k : Nat) : (bss.getD k []).length ≤ (bss.map List.length).sum := by
  by_cases h : k < bss.length
  · have e : bss.getD k [] = bss[k] := by simp [List.getD, h]
    rw [e]
    have hm : bss[k].length ∈ bss.map List.length := List.mem_map.2 ⟨_, List.getElem_mem _, rfl⟩
    exact le_sum _ _ hm
  · have e : bss.getD k [] = [] := by simp [List.getD, List.getElem?_eq_none (show bss.length ≤ k by omega)]
    rw [e]; simp

set_option maxRecDepth 100000 in
set_option maxHeartbeats 1000000 in
theorem crcSplits_law (sv : Value) (bss : List (List Nat)) (hsmall : (bss.map List.length).sum + bss.length ≤ 1048576) (w : World) (hT : Tab w) (hI : ByteRows w.heap.size w sv bss) :
    Calls Tryd.prog 8 #[sv] w fun e W' => e = .returned (.bool true) ∧ Below w.heap.size w W' := by
  obtain ⟨i0, hi, hz0, hz1, hz2⟩ := info_parts info_u8
  obtain ⟨A, cap, rfl⟩ := hI.form
  obtain ⟨len, hlen⟩ : ∃ len, bss.length = len := ⟨_, rfl⟩
  rw [hlen] at hI ⊢
  have hlenb : len ≤ 1048576 := by omega
  have hsum : (bss.map List.length).sum ≤ 1048576 := by omega
  have HI := Lib.hid hI
  have HL := Lib.hid hlen
  have HT := Lib.hid hT
  have HS := Lib.hid hsum
  have c0 := sum_calls (.slice none 0 0) [] (by simp) w hT ⟨none, 0, rfl, by simp, fun _ => rfl, by simp, by simp⟩
  rw [extN_zero_nil] at c0
  have C0 := Lib.hid c0
  clear hI hlen hT hsum hsmall c0
  go_enter Tryd.func8, Tryd.ntmps8
  go_wp2_with fail
  refine C0.out.mono ?_
  rintro e w1 ⟨rfl, hB1⟩
  go_wp2_with fail
  go_loopw [3, 4, 5] (fun v s i wr => ∃ k : Nat, k ≤ len ∧ i = .int .i64 k ∧ s = .int .u32 (extN 0 (bss.take k).flatten : Nat) ∧ OwnB wr w1.heap.size 5 v (bss.take k).flatten ∧ Below w1.heap.size w1 wr) (fun _ _ i _ => len - (intOf i).toNat)
  case atStart => exact ⟨0, Nat.zero_le _, rfl, by simp [extN_zero_nil], ⟨by simpa [vals] using World.ownsRow_nil w1 w1.heap.size 5 1, by simp⟩, Below.refl _ _⟩
  case round =>
    obtain ⟨k, hk, rfl, rfl, hO, hBr⟩ := hrel
    have hBw := hB1.trans (hBr.mono hB1.size)
    have hflat : ((bss.take k).flatten).length ≤ 1048576 := by
      rw [List.length_flatten, List.map_take]
      exact Nat.le_trans (sum_le _ k) HS.out
    by_cases hlt : k < len
    · obtain ⟨b, off, rfl, hb, hcs⟩ := HI.out.cells (by omega)
      obtain ⟨vk, hck, hIk⟩ := hcs k hlt
      have hIk := (hIk.below hBw).more hBw.size
      have hck := (hBw.cell (p := ⟨b, off + k, none⟩) hb).trans hck
      have hlk : (bss.getD k []).length ≤ 1048576 := Nat.le_trans (getD_sum_le bss k) HS.out
      have hnext : (bss.take (k + 1)).flatten = (bss.take k).flatten ++ bss.getD k [] := by
        have hkl : k < bss.length := by rw [HL.out]; exact hlt
        rw [List.take_succ_eq_append_getElem hkl, List.flatten_append]
        simp [List.getD, hkl]
      have hext : extN 0 ((bss.take k).flatten ++ bss.getD k []) = extN (extN 0 (bss.take k).flatten) (bss.getD k []) := extN_append 0 _ _
      have hslt : extN 0 (bss.take k).flatten < 4294967296 := extN_lt 0 _ (by decide)
      obtain ⟨S, hS⟩ : ∃ S, extN 0 (bss.take k).flatten = S := ⟨_, rfl⟩
      rw [hS] at hext hslt ⊢
      obtain ⟨Ak, capk, rfl⟩ := hIk.form
      obtain ⟨lk, hlk'⟩ : ∃ lk, (bss.getD k []).length = lk := ⟨_, rfl⟩
      obtain ⟨v2, w2, R2, O2, G2, _⟩ := run_append_bytes (P := Tryd.prog) wr 23 Tryd.underlying23 hi hz0 hz1 hz2 rfl hO hIk (by omega) hBr.size
      have hB2 := below_append hBr G2 hO (Nat.le_refl _) hBr.size
      have hB2w := hB1.trans (hB2.mono hB1.size)
      have hI2 : Bytes w2.heap.size w2 (.slice Ak (bss.getD k []).length capk) (bss.getD k []) := by
        obtain ⟨v', hc', hI'⟩ := hcs k hlt
        have e1 := (hBw.cell (p := ⟨b, off + k, none⟩) hb).trans hc'
        rw [hck] at e1
        obtain rfl := Option.some.inj e1
        exact (hI'.below hB2w).more hB2w.size
      have hck2 := (hB2w.cell (p := ⟨b, off + k, none⟩) hb).trans ((hBw.cell (p := ⟨b, off + k, none⟩) hb).symm.trans hck)
      have cE := extend_calls S hslt _ _ (by omega) w2 (HT.out.below hB2w) hI2
      rw [hlk'] at hck hck2 R2 cE
      have R2' := Lib.hid R2
      have CE := Lib.hid cE
      have HX := Lib.hid hext
      have HN := Lib.hid hnext
      have hkI : (k : Int) < (len : Int) := by omega
      have O2' := Lib.hid O2
      clear R2 cE hext hnext hS hcs hIk hI2 hlk' hlk G2 hO O2 hflat
      go_wp2_with (at_builtin; refine wpList_append_ran rfl _ _ _ rfl rfl rfl R2'.out ?_; clear hck)
      refine CE.out.mono ?_
      rintro e w3 ⟨rfl, hB3⟩
      go_wp2
      go_roundw
      case rel => exact ⟨k + 1, by omega, by go_num, by rw [HN.out, HX.out]; rfl, by rw [HN.out]; exact O2'.out.below hB3, hB2.trans (hB3.mono hB2.size)⟩
      case measure => simp [intOf]; omega
    · obtain rfl : k = len := by omega
      have hall : (bss.take k).flatten = bss.flatten := by rw [List.take_of_length_le (by rw [HL.out]; omega)]
      rw [hall] at hO hflat ⊢
      obtain ⟨S, hS⟩ : ∃ S, extN 0 bss.flatten = S := ⟨_, rfl⟩
      rw [hS]
      have hTr := HT.out.below hBw
      clear hall
      go_wp2_with fail
      refine (known_calls _ hTr).mono ?_
      rintro e w3 ⟨rfl, hB3⟩
      go_wp2_with fail
      refine (sum_calls _ bss.flatten (by omega) w3 (hTr.below hB3) (hO.below hB3).bytes).mono ?_
      rintro e w4 ⟨rfl, hB4⟩
      rw [hS]
      go_wp2
      go_ret
      exact ⟨rfl, (hBw.trans (hB3.mono hBw.size)).trans (hB4.mono (Nat.le_trans hBw.size hB3.size))⟩

end Go.Proofs.YtbfjmphopnecdaaDoor.Crc
