/-
  The walk of the law CrcMixes: whatever the three rows of bytes, it returns true and nothing that lay has turned.
-/
import Derived.Test.YtbfjmphopnecdaaDoorCrcExtendsLaw
import Derived.StillTailTactics
import Derived.Laws.Cover1
import Derived.Deep.RegionLaw
namespace Go.Proofs.YtbfjmphopnecdaaDoor.Crc
open Go.RowKit Go.Proofs.YtbfjmphopnecdaaDoor.Law

/-- Sum, told from an elder world that lies unturned. -/
theorem sum_from (w0 : World) (hT : Tab w0) (sv : Value) (bs : List Nat) (hreach : bs.length ≤ 140737488351232) (hI : Bytes w0.heap.size w0 sv bs) (W : World) (hB : Below w0.heap.size w0 W) :
    Calls Tryd.prog 10 #[sv] W fun e W' => e = .returned (.int .u32 (extN 0 bs : Nat)) ∧ Below w0.heap.size w0 W' :=
  (sum_calls sv bs hreach W (hT.below hB) (hI.on hB)).mono fun _ _ ⟨he, h⟩ => ⟨he, hB.trans (h.mono hB.size)⟩

set_option maxRecDepth 100000 in
set_option maxHeartbeats 1000000 in
theorem crcMixes_law (sa sb sc : Value) (xs ys zs : List Nat) (hx : xs.length ≤ 140737488351232) (hy : ys.length ≤ 140737488351232) (hz : zs.length ≤ 140737488351232) (w : World) (hT : Tab w)
    (hX : Bytes w.heap.size w sa xs) (hY : Bytes w.heap.size w sb ys) (hZ : Bytes w.heap.size w sc zs) :
    Calls Tryd.prog 6 #[sa, sb, sc] w fun e W' => e = .returned (.bool true) ∧ Below w.heap.size w W' := by
  obtain ⟨i0, hi, hz0, hz1, hz2⟩ := info_parts info_u8
  obtain ⟨A, ca, rfl⟩ := hX.form
  obtain ⟨B, cb, rfl⟩ := hY.form
  obtain ⟨C, cc, rfl⟩ := hZ.form
  obtain ⟨la, hla⟩ : ∃ la, xs.length = la := ⟨_, rfl⟩
  obtain ⟨lb, hlb⟩ : ∃ lb, ys.length = lb := ⟨_, rfl⟩
  obtain ⟨lc, hlc⟩ : ∃ lc, zs.length = lc := ⟨_, rfl⟩
  rw [hla] at hx hX ⊢
  rw [hlb] at hy hY ⊢
  rw [hlc] at hz hZ ⊢
  have HX := Lib.hid hX
  have HY := Lib.hid hY
  have HZ := Lib.hid hZ
  have HLA := Lib.hid hla
  have HLB := Lib.hid hlb
  have HLC := Lib.hid hlc
  have HT := Lib.hid hT
  clear hX hY hZ hla hlb hlc hT
  obtain ⟨n, hn⟩ : ∃ n, min (min la lb) lc = n := ⟨_, rfl⟩
  have hna : n ≤ la := by omega
  have hnb : n ≤ lb := by omega
  have hnc : n ≤ lc := by omega
  have hmin : ∀ ts t (W : World), (Builtin.min_ ts t #[.int .i64 (la : Int), .int .i64 (lb : Int), .int .i64 (lc : Int)]).run Tryd.prog W = .ok (.int .i64 (n : Int)) W := by
    intro ts t W
    rw [run_min_int3]
    congr 2
    split <;> split <;> omega
  clear hn
  go_enter Tryd.func6, Tryd.ntmps6
  go_wp2_with fail
  refine (known_calls _ HT.out).mono ?_
  rintro e w1 ⟨rfl, hB1⟩
  have HB1 := Lib.hid hB1
  clear hB1
  go_wp2_with fail
  go_loopw [8, 9] (fun v i wr => ∃ k : Nat, k ≤ n ∧ i = .int .i64 k ∧ OwnB wr w1.heap.size 5 v (mixN xs ys zs k) ∧ Below w1.heap.size w1 wr) (fun _ i _ => n - (intOf i).toNat)
  case atStart => exact ⟨0, Nat.zero_le _, rfl, ⟨World.ownsRow_nil _ _ _ _, by simp [mixN]⟩, Below.refl _ _⟩
  case round =>
    obtain ⟨k, hk, rfl, hO, hBr⟩ := hrel
    have hBw := HB1.out.trans (hBr.mono HB1.out.size)
    by_cases hlt : k < n
    · obtain ⟨ba, oa, rfl, hba, hca⟩ := HX.out.cells (by omega)
      obtain ⟨bb, ob, rfl, hbb, hcb⟩ := HY.out.cells (by omega)
      obtain ⟨bc, oc, rfl, hbc, hcc⟩ := HZ.out.cells (by omega)
      have hcx := (hBw.cell (p := ⟨ba, oa + k, none⟩) hba).trans (hca k (by omega))
      have hcy := (hBw.cell (p := ⟨bb, ob + k, none⟩) hbb).trans (hcb k (by omega))
      have hcz := (hBw.cell (p := ⟨bc, oc + k, none⟩) hbc).trans (hcc k (by omega))
      have hsucc := mixN_succ xs ys zs k
      have hx8 : xs.getD k 0 < 256 := getD_lt HX.out.lt k
      have hy8 : ys.getD k 0 < 256 := getD_lt HY.out.lt k
      have hz8 : zs.getD k 0 < 256 := getD_lt HZ.out.lt k
      obtain ⟨x, hx'⟩ : ∃ x, xs.getD k 0 = x := ⟨_, rfl⟩
      obtain ⟨y, hy'⟩ : ∃ y, ys.getD k 0 = y := ⟨_, rfl⟩
      obtain ⟨z, hz'⟩ : ∃ z, zs.getD k 0 = z := ⟨_, rfl⟩
      rw [hx'] at hcx hx8 hsucc
      rw [hy'] at hcy hy8 hsucc
      rw [hz'] at hcz hz8 hsucc
      obtain ⟨p, hp⟩ : ∃ p, x ^^^ y = p := ⟨_, rfl⟩
      obtain ⟨q, hq⟩ : ∃ q, p ^^^ z = q := ⟨_, rfl⟩
      have hp8 : p < 256 := hp ▸ xor_lt8 hx8 hy8
      have hq8 : q < 256 := hq ▸ xor_lt8 hp8 hz8
      have hxor1 : bits .xor .u8 (x : Int) (y : Int) = (p : Int) := by rw [u8_xor_nat _ _ hx8 hy8, hp]
      have hxor2 : bits .xor .u8 (p : Int) (z : Int) = (q : Int) := by rw [u8_xor_nat _ _ hp8 hz8, hq]
      rw [hp, hq] at hsucc
      have hlk := mixN_length xs ys zs k
      have HS := Lib.hid hsucc
      have HLK := Lib.hid hlk
      have hkI : (k : Int) < (n : Int) := by omega
      have hkA : (k : Int) < (la : Int) := by omega
      have hkB : (k : Int) < (lb : Int) := by omega
      have hkC : (k : Int) < (lc : Int) := by omega
      clear hca hcb hcc hx' hy' hz' hp hq hsucc hlk
      have hbase : w1.heap.size ≤ wr.heap.size := hBr.size
      have hroom : k + 1 ≤ 140737488355328 := by omega
      go_wp2
      go_region_law (refine step_append_bytes rfl _ _ _ rfl Tryd.underlying23 hi hz0 hz1 hz2 rfl rfl rfl (hO.alloc _) (Bytes.one q hq8 (by simp) (by simp)) (by rw [HLK.out]; exact hroom) (by simp; omega) ?_; intro v' w' hO' hg')
      all_goals
        have hB' : Below w1.heap.size w1 w' := below_append ((hBr.alloc hbase _).drew) hg' ((hO.alloc _).drew) (Nat.le_refl _) (by simp; omega)
        clear hg'
        go_wp2
        go_roundw
        case rel => exact ⟨k + 1, by omega, by go_num, by rw [HS.out]; exact hO', hB'⟩
        case measure => simp [intOf]; omega
    · obtain rfl : k = n := by omega
      have hTr := HT.out.below hBw
      have hM := hO.bytes
      have hlm : (mixN xs ys zs k).length ≤ 140737488351232 := by rw [mixN_length]; omega
      have hXr := (HX.out.on hBw).front k (by rw [HLA.out]; omega)
      have hYr := (HY.out.on hBw).front k (by rw [HLB.out]; omega)
      have hZr := (HZ.out.on hBw).front k (by rw [HLC.out]; omega)
      have hmix := extN_mix xs ys zs k (by rw [HLA.out]; omega) (by rw [HLB.out]; omega) (by rw [HLC.out]; omega) HX.out.lt HY.out.lt HZ.out.lt
      have l1 : extN 0 (xs.take k) < 4294967296 := extN_lt 0 _ (by decide)
      have l2 : extN 0 (ys.take k) < 4294967296 := extN_lt 0 _ (by decide)
      have l3 : extN 0 (zs.take k) < 4294967296 := extN_lt 0 _ (by decide)
      have cm := sum_from wr hTr _ _ hlm hM
      have cx := sum_from wr hTr _ _ (by rw [List.length_take]; omega) hXr
      have cy := sum_from wr hTr _ _ (by rw [List.length_take]; omega) hYr
      have cz := sum_from wr hTr _ _ (by rw [List.length_take]; omega) hZr
      obtain ⟨X, hX'⟩ : ∃ X, extN 0 (xs.take k) = X := ⟨_, rfl⟩
      obtain ⟨Y, hY'⟩ : ∃ Y, extN 0 (ys.take k) = Y := ⟨_, rfl⟩
      obtain ⟨Z, hZ'⟩ : ∃ Z, extN 0 (zs.take k) = Z := ⟨_, rfl⟩
      obtain ⟨M, hM'⟩ : ∃ M, extN 0 (mixN xs ys zs k) = M := ⟨_, rfl⟩
      rw [hX'] at hmix l1 cx
      rw [hY'] at hmix l2 cy
      rw [hZ'] at hmix l3 cz
      rw [hM'] at hmix cm
      obtain ⟨p, hp⟩ : ∃ p, X ^^^ Y = p := ⟨_, rfl⟩
      have lp : p < 4294967296 := hp ▸ xor_lt32 l1 l2
      have hxor1 : bits .xor .u32 (X : Int) (Y : Int) = (p : Int) := by rw [u32_xor_nat _ _ l1 l2, hp]
      have hxor2 : bits .xor .u32 (p : Int) (Z : Int) = (M : Int) := by rw [u32_xor_nat _ _ lp l3, ← hp, ← hmix]
      have hka : (k : Int) ≤ (ca : Int) := by have := hXr.capOk; omega
      have hkb : (k : Int) ≤ (cb : Int) := by have := hYr.capOk; omega
      have hkc : (k : Int) ≤ (cc : Int) := by have := hZr.capOk; omega
      have CM := Lib.hid cm
      have CX := Lib.hid cx
      have CY := Lib.hid cy
      have CZ := Lib.hid cz
      have HBW := Lib.hid hBw
      clear hX' hY' hZ' hM' hmix hp cm cx cy cz hTr hM hXr hYr hZr hlm hBw
      go_wp2
      go_region_with (go_at_call 10; (first | ((with_reducible refine (CM.out _ ?_).mono ?_); (first | assumption | exact (Below.refl _ _).drew | exact Below.drew (by assumption))) | ((with_reducible refine (CX.out _ ?_).mono ?_); (first | assumption | exact (Below.refl _ _).drew | exact Below.drew (by assumption))) | ((with_reducible refine (CY.out _ ?_).mono ?_); (first | assumption | exact (Below.refl _ _).drew | exact Below.drew (by assumption))) | ((with_reducible refine (CZ.out _ ?_).mono ?_); (first | assumption | exact (Below.refl _ _).drew | exact Below.drew (by assumption)))); rintro e w' ⟨rfl, hB'⟩)
      all_goals
        go_wp2
        go_ret
        exact ⟨rfl, HBW.out.trans (hB'.mono HBW.out.size)⟩

end Go.Proofs.YtbfjmphopnecdaaDoor.Crc
