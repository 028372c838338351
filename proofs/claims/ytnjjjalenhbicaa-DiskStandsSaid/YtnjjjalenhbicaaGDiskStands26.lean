/-
  Put together out of texts of one chain: what they hold stands ahead of each.
-/
import Derived.Test.YtnjjjalenhbicaaGDiskStands22
import Derived.Test.YtnjjjalenhbicaaGDiskStands04
import Derived.Maps.AppendAt
import Derived.IntWalk
/-
  The contract of the document's disk's over.
-/
namespace Go.Proofs.Ytnjjjalenhbicaa.Disk
open Go Go.RowKit Go.Sort Go.Lib Go.Proofs.Ytnjjjalenhbicaa.Law

def lenV : Value → Nat
  | .slice _ n _ => n
  | _ => 0
theorem over_end (bs : List Nat) (k : Nat) (ds : List Nat) (hk : k ≤ bs.length) : overL (bs ++ List.replicate (k + ds.length - bs.length) 0) k ds = overL bs k ds := by
  unfold overL
  rw [List.take_append_of_le_length hk]
  by_cases h : k + ds.length ≤ bs.length
  · rw [Nat.sub_eq_zero_of_le h]; simp
  · rw [List.drop_of_length_le (by simp; omega), List.drop_of_length_le (by omega)]
theorem over_set (X : List Nat) (k : Nat) (ds : List Nat) (j : Nat) (hj : j < ds.length) (hX : k + ds.length ≤ X.length) : (overL X k (ds.take j)).set (k + j) (ds.getD j 0) = overL X k (ds.take (j + 1)) := by
  unfold overL
  have e1 : (ds.take j).length = j := by rw [List.length_take]; omega
  have e2 : (ds.take (j + 1)).length = j + 1 := by rw [List.length_take]; omega
  have e3 : X.drop (k + j) = X[k + j] :: X.drop (k + (j + 1)) := by rw [List.drop_eq_getElem_cons (by omega)]; rfl
  have e4 : ds.getD j 0 = ds[j] := by simp [List.getD, hj]
  rw [e1, e2, e3, e4, List.set_append_right _ _ (by rw [List.length_append, List.length_take, e1]; omega)]
  have e5 : k + j - (X.take k ++ ds.take j).length = 0 := by rw [List.length_append, List.length_take, e1]; omega
  rw [e5, List.set_cons_zero, List.take_succ_eq_append_getElem hj]
  simp only [List.append_assoc, List.cons_append, List.nil_append]
theorem over_zero (X : List Nat) (k : Nat) : overL X k [] = X := by
  unfold overL; simp
theorem over_len (X : List Nat) (k : Nat) (ds : List Nat) (hX : k + ds.length ≤ X.length) : (overL X k ds).length = X.length := by
  rw [overL_length _ _ (by omega)]; omega

/-- What `over` leaves: bytes of the call's own. -/
def OverO (w : World) (out : List Nat) (e : Ending) (W : World) : Prop := ∃ A c, e = .returned (.slice A out.length c) ∧ OwnB W w.heap.size 5 (.slice A out.length c) out ∧ Below w.heap.size w W

set_option maxRecDepth 100000 in
set_option maxHeartbeats 2000000 in
theorem refOver_calls (bv dv : Value) (bs ds : List Nat) (k : Nat) (hk : k ≤ bs.length) (hb : bs.length ≤ 4294967296) (hd : ds.length ≤ 4294967296) (w : World) (hB0 : Bytes w.heap.size w bv bs) (hD0 : Bytes w.heap.size w dv ds) :
    Calls Try.prog 52 #[bv, .int .i64 k, dv] w (OverO w (overL bs k ds)) := by
  obtain ⟨i0, hi, hz0, hz1, hz2⟩ := info_parts info_u8
  obtain ⟨bA, bcap, rfl⟩ := hB0.form
  obtain ⟨dA, dcap, rfl⟩ := hD0.form
  obtain ⟨L, hL⟩ : ∃ L, bs.length = L := ⟨_, rfl⟩
  obtain ⟨M, hM⟩ : ∃ M, ds.length = M := ⟨_, rfl⟩
  have HL := Lib.hid hL
  have HM := Lib.hid hM
  rw [hL] at hB0 hk hb ⊢
  rw [hM] at hD0 hd ⊢
  have HD := Lib.hid hD0
  have HDL := Lib.hid (fun (W : World) (h : Below w.heap.size w W) => hD0.on h)
  have hlit := World.ownsRow_lit (base := w.heap.size) (size := 1) (e := 5) w #[] 0 (Nat.le_refl _) (by simp [maxLen]) rfl
  have HLIT : Hid (OwnB (w.alloc (.cells #[] 5)) w.heap.size 5 (.slice (some ⟨w.heap.size, 0, none⟩) 0 0) []) := Lib.hid ⟨hlit, by simp⟩
  have hB1 := (Below.refl w.heap.size w).alloc (Nat.le_refl _) (.cells #[] 5)
  obtain ⟨v2, w2, R2, O2, G2, _⟩ := run_append_bytes (P := Try.prog) (w.alloc (.cells #[] 5)) 34 Try.underlying34 hi hz0 hz1 hz2 rfl HLIT.out (hB0.on hB1) (by rw [hL]; simp; omega) hB1.size
  have hB2 : Below w.heap.size w w2 := below_append hB1 G2 HLIT.out (Nat.le_refl _) hB1.size
  rw [List.nil_append] at O2
  obtain ⟨A2, c2, rfl⟩ := O2.bytes.form
  have R2' := Lib.hid R2
  have O2' := Lib.hid O2
  have HB2 := Lib.hid hB2
  rw [hL] at R2' O2'
  clear R2 O2 hB2 hB1 hlit HLIT hB0 hD0 G2 hL hM
  obtain ⟨Z, hZ⟩ : ∃ Z, k + M - L = Z := ⟨_, rfl⟩
  have HZ := Lib.hid hZ
  clear hZ
  go_enter Try.func52, Try.ntmps52
  go_wp2_with (at_builtin; refine wpList_append_ran rfl _ _ _ rfl rfl rfl R2'.out ?_)
  go_loopw [7] (fun o wr => ∃ (j : Nat) (A : Option Addr) (c : Nat), o = .slice A (L + j : Nat) c ∧ j ≤ Z ∧ Hid (OwnB wr w.heap.size 5 (.slice A (L + j) c) (bs ++ List.replicate j 0)) ∧ Hid (Below w.heap.size w wr)) (fun o _ => L + Z - lenV o)
  case atStart => exact ⟨0, A2, c2, by simp, Nat.zero_le _, by simpa using O2', HB2⟩
  case round =>
    obtain ⟨j, A, c, rfl, hj, HO, HB⟩ := hrel
    clear HB2 O2' R2'
    by_cases hlt : L + j < k + M
    · have hltI : ((L : Int) + (j : Int)) < (k : Int) + (M : Int) := by omega
      have hBa := HB.out.alloc HB.out.size (.cells #[.int .u8 0] 5)
      obtain ⟨v3, w3, R3, O3, G3, _⟩ := run_append_bytes (P := Try.prog) (wr.alloc (.cells #[.int .u8 0] 5)) 34 Try.underlying34 hi hz0 hz1 hz2 rfl (HO.out.alloc _)
        (Bytes.lit wr 5 #[.int .u8 0] [0] 1 rfl (by decide) rfl (by decide)) (by simp [HL.out]; omega) hBa.size
      have hB3 := below_append hBa G3 (HO.out.alloc _) (Nat.le_refl _) hBa.size
      have e1 : bs ++ List.replicate j 0 ++ [0] = bs ++ List.replicate (j + 1) 0 := by rw [List.append_assoc, ← List.replicate_succ']
      rw [e1] at O3
      obtain ⟨A3, c3, rfl⟩ := O3.bytes.form
      have e2 : (bs ++ List.replicate (j + 1) 0).length = L + j + 1 := by simp [HL.out]; omega
      rw [e2] at O3 R3
      have R3' := Lib.hid R3
      have O3' := Lib.hid O3
      have HB3 := Lib.hid hB3
      clear R3 O3 hB3 hBa e1 e2 G3 HB HO
      go_wp2_with (at_builtin; refine wpList_append_ran rfl _ _ _ rfl rfl rfl R3'.out ?_)
      go_roundw
      case rel => exact ⟨j + 1, A3, c3, rfl, by have := HZ.out; omega, O3', HB3⟩
      case measure => have := HZ.out; simp [lenV]; omega
    · have hltI : ¬ ((L : Int) + (j : Int)) < (k : Int) + (M : Int) := by omega
      obtain rfl : j = Z := by have := HZ.out; omega
      have hX : (bs ++ List.replicate j 0).length = L + j := by simp [HL.out]
      have hXk : k + M ≤ L + j := by omega
      have HX := Lib.hid hX
      have HE : Hid (overL (bs ++ List.replicate j 0) k ds = overL bs k ds) := Lib.hid (by
        have := over_end bs k ds (by rw [HL.out]; exact hk)
        rw [HM.out, HL.out, HZ.out] at this; exact this)
      obtain ⟨X, hXX⟩ : ∃ X, bs ++ List.replicate j 0 = X := ⟨_, rfl⟩
      rw [hXX] at HO HX HE
      obtain ⟨T, hT⟩ : ∃ T, L + j = T := ⟨_, rfl⟩
      rw [hT] at HO HX hXk ⊢
      have hT' : (L : Int) + (j : Int) = (T : Int) := by omega
      have hcap : (T : Int) ≤ (c : Int) := by have := HO.out.bytes.capOk; omega
      clear hX hXX hT HL
      go_wp2_with fail
      clear HZ
      obtain ⟨wA, rfl⟩ : ∃ x, x = wr := ⟨_, rfl⟩
      go_loopw [8] (fun i wr => ∃ m : Nat, i = .int .i64 m ∧ m ≤ M ∧ Hid (OwnB wr w.heap.size 5 (.slice A T c) (overL X k (ds.take m))) ∧ Hid (Below w.heap.size w wr)) (fun i _ => M - (intOf i).toNat)
      case atStart => exact ⟨0, rfl, Nat.zero_le _, by rw [List.take_zero, over_zero]; exact HO, HB⟩
      case round =>
        obtain ⟨m, rfl, hm, HO2, HB2⟩ := hrel
        by_cases hlt2 : m < M
        · have hmI : (m : Int) < (M : Int) := by omega
          have hlen : (overL X k (ds.take m)).length = T := by rw [over_len _ _ _ (by rw [HX.out, List.length_take, HM.out]; omega), HX.out]
          have HO3 : Hid (OwnB wr w.heap.size 5 (.slice A (overL X k (ds.take m)).length c) (overL X k (ds.take m))) := by rw [hlen]; exact HO2
          obtain ⟨g, c', he, hgb, hgl⟩ := HO3.out.form (by omega)
          simp only [Value.slice.injEq] at he
          obtain ⟨rfl, _, rfl⟩ := he
          obtain ⟨n, hn⟩ : ∃ n, k + m = n := ⟨_, rfl⟩
          have hnI : (k : Int) + (m : Int) = (n : Int) := by omega
          have hnT : (n : Int) < (T : Int) := by omega
          obtain ⟨ct, cf⟩ := HO2.out.cell hlen n (by omega)
          have hDw := HDL.out wr HB2.out
          obtain ⟨gd, od, rfl, hgd, cd⟩ := hDw.cells (by omega)
          have hdc := hDw.capOk
          have hdcI : (M : Int) ≤ (dcap : Int) := by omega
          have cd' := cd m hlt2
          have hst := HO2.out.store hlen n (ds.getD m 0) (getD_lt hDw.lt m)
          rw [← hn, over_set X k ds m (by rw [HM.out]; exact hlt2) (by rw [HM.out, HX.out]; exact hXk), hn] at hst
          have HST := Lib.hid hst
          have HB4 : Hid (Below w.heap.size w (wr.setCell ⟨g, n, none⟩ (.int .u8 ((ds.getD m 0 : Nat) : Int)))) := Lib.hid (HB2.out.setCell (by exact hgb) _)
          clear hst cd hDw HO2 HO3 hn
          go_wp2_with fail
          go_roundw
          case rel => exact ⟨m + 1, by go_num, by omega, HST, HB4⟩
          case measure => simp [intOf]; omega
        · obtain rfl : m = M := by omega
          have hfin : overL X k (ds.take m) = overL bs k ds := by rw [List.take_of_length_le (by rw [HM.out]; exact Nat.le_refl _), HE.out]
          have hln : (overL bs k ds).length = T := by rw [← hfin, over_len _ _ _ (by rw [HX.out, List.length_take, HM.out]; omega), HX.out]
          have HFIN : Hid (OverO w (overL bs k ds) (.returned (.slice A T c)) wr) := Lib.hid ⟨A, c, by rw [hln], by rw [hln, ← hfin]; exact HO2.out, HB2.out⟩
          clear hfin hln HO2 HB2
          go_wp2_with fail
          go_ret
          exact HFIN.out

end Go.Proofs.Ytnjjjalenhbicaa.Disk

/-
  Rows of the call's own: what frame's texts have of them, of whatever seat.
-/
namespace Go.Proofs.Ytnjjjalenhbicaa.Law
open Go Go.RowKit

theorem row_lower {W : World} {base b' n : Nat} {e : TypeId} {size : Nat} {v : Value} {xs : List Value} (h : W.ownsRow base e size v n xs) (hb : b' ≤ base) : W.ownsRow b' e size v n xs := by
  refine ⟨h.1, ?_⟩
  rcases h.2 with h0 | ⟨g, cap, cur, rfl, h1, h2⟩
  · exact .inl h0
  · exact .inr ⟨g, cap, cur, rfl, by omega, h2⟩
theorem row_form {W : World} {base n : Nat} {e : TypeId} {size : Nat} {v : Value} {xs : List Value} (h : W.ownsRow base e size v n xs) : ∃ A c, v = .slice A n c := by
  rcases h.2 with ⟨rfl, h0⟩ | ⟨g, cap, cur, rfl, _⟩
  · exact ⟨none, 0, by rw [h0]⟩
  · exact ⟨_, _, rfl⟩

theorem info_rowB : (Try.prog.info? 34).map (fun i => (i.zero, i.size, i.bytes)) = some (some (.slice none 0 0), 1, 24) := by kernel_rfl
theorem info_u8' : (Try.prog.info? 5).map (fun i => (i.zero, i.size, i.bytes)) = some (some (.int .u8 0), 1, 1) := by kernel_rfl
theorem below_appended {W w1 w : World} {base k : Nat} {v : Value} {xs : List Value} {tmp : Obj} {e : TypeId} (hB : Below base w W) (hrow : W.ownsRow base e 1 v k xs) (hgrow : (W.alloc tmp).grownBy w1 v.ownBlock) (hb : base ≤ W.heap.size) : Below base w w1 :=
  (hB.alloc hb tmp).grown hgrow (by simp; omega) (fun j ej => (hrow.lt j ej).1)

theorem owns_other {W : World} {base base' n n' size size' : Nat} {e e' : TypeId} {v v' : Value} {xs xs' : List Value} (h : W.ownsRow base e size v n xs) (h' : W.ownsRow base' e' size' v' n' xs') (hne : e ≠ e') : v.ownBlock = none ∨ v.ownBlock ≠ v'.ownBlock := by
  rcases h.2 with ⟨rfl, _⟩ | ⟨g, cap, cur, rfl, _, hg, _⟩
  · exact .inl rfl
  · rcases h'.2 with ⟨rfl, _⟩ | ⟨g', cap', cur', rfl, _, hg', _⟩
    · exact .inr (by simp [Value.ownBlock])
    · refine .inr fun e2 => ?_
      obtain rfl : g = g' := by simpa [Value.ownBlock] using e2
      rw [hg] at hg'
      have := Option.some.inj hg'
      injection this with _ h2 _
      exact hne h2

theorem OwnB.lowerB {W : World} {base b' : Nat} {e : TypeId} {v : Value} {bs : List Nat} (h : OwnB W base e v bs) (hb : b' ≤ base) : OwnB W b' e v bs := ⟨row_lower h.1 hb, h.2⟩

end Go.Proofs.Ytnjjjalenhbicaa.Law

/-
  Contracts of the document's disk: without.
-/
namespace Go.Proofs.Ytnjjjalenhbicaa.Disk
open Go Go.RowKit Go.Sort Go.Lib Go.Proofs.Ytnjjjalenhbicaa.Law

theorem info_file : (Try.prog.info? 71).map (fun i => (i.zero, i.size, i.bytes)) = some (some (.agg #[.string ⟨#[]⟩, .slice none 0 0]), 2, 40) := by kernel_rfl
theorem flatF_one : ∀ l : List RF, (∀ p ∈ l, p.2.oneCell' = true) → ∀ u ∈ flatF l, u.oneCell' = true
  | [], _, u, h => by simp [flatF] at h
  | p :: r, hl, u, h => by
    simp only [flatF, List.mem_cons] at h
    rcases h with rfl | rfl | h
    · rfl
    · exact hl p (by simp)
    · exact flatF_one r (fun q hq => hl q (by simp [hq])) u h
/-- A file that lies in a block is put behind a row that is being built. -/
theorem rowF_append {W : World} {b2 : Nat} {v : Value} {ps : List RF} (h : W.ownsRow b2 71 2 v ps.length (flatF ps)) (hbase : b2 ≤ W.heap.size) (ty : TypeId) (b : Nat) (x : RF)
    (hm : W.heap[b]? = some (.cells #[.string x.1.1, x.2] 71 (0, 0))) (hone : x.2.oneCell' = true) (hroom : ps.length ≤ 1000000000) :
    ∃ A' c' W', (Builtin.append_ #[29, 29] ty #[v, .slice (some ⟨b, 0, none⟩) 1 1]).run Try.prog W = .ok (.slice A' (ps.length + 1) c') W' ∧ W'.ownsRow b2 71 2 (.slice A' (ps.length + 1) c') (ps.length + 1) (flatF (ps ++ [x])) ∧ Below b2 W W' := by
  obtain ⟨i0, hi, hz0, hz1, hz2⟩ := info_parts info_file
  obtain ⟨v', W', hrun, h3, h4, _, _⟩ := run_append_own_at (P := Try.prog) W b2 29 ty 71 i0 _ 2 40 Try.underlying29 hi hz0 hz1 hz2 rfl (by decide) v ps.length (flatF ps) h ⟨b, 0, none⟩ 1 1 (flatF [x]) rfl
    (fun j w hw => by
      rw [Addr.add_lit]
      match j, hw with
      | 0, hw => simp [flatF] at hw; subst hw; simp [World.cell?, hm]
      | 1, hw => simp [flatF] at hw; subst hw; simp [World.cell?, hm]
      | j + 2, hw => simp [flatF] at hw) (flatF_one _ (by simpa using hone)) (by simp only [maxLen]; omega) (by omega) hbase
  obtain ⟨A', c', rfl⟩ := row_form h3
  exact ⟨A', c', W', hrun, by rw [flatF_append]; exact h3, (Below.refl b2 W).grown h4 hbase (fun k hk => (h.lt k hk).1)⟩

/-- A row of files in a block that isn't older than n. -/
def FilesN (n : Nat) (W : World) (base : Nat) (v : Value) (ps : List RF) : Prop := FilesAt W base v ps ∧ ∀ g, v.ownBlock = some g → n ≤ g
theorem FilesN.old {n m : Nat} {W : World} {base : Nat} {v : Value} {ps : List RF} (h : FilesN n W base v ps) (hm : m ≤ n) : FilesN m W base v ps := ⟨h.1, fun g hg => Nat.le_trans hm (h.2 g hg)⟩
theorem row_new {W : World} {base size n : Nat} {e : TypeId} {v : Value} {xs : List Value} (h : W.ownsRow base e size v n xs) : ∀ g, v.ownBlock = some g → base ≤ g := fun g hg => by
  rcases h.2 with ⟨rfl, _⟩ | ⟨g', cap, cur, rfl, h1, _⟩
  · cases hg
  · simp only [Value.ownBlock, Option.some.injEq] at hg
    subst hg
    exact h1
/-- What `with` and `without` leave: files of the call's own row. -/
def FilesO (w : World) (base : Nat) (out : List RF) (e : Ending) (W : World) : Prop := ∃ A c, e = .returned (.slice A out.length c) ∧ FilesN w.heap.size W base (.slice A out.length c) out ∧ Below w.heap.size w W

def neN (s : ByteArray) (p : RF) : Bool := decide (p.1.1 ≠ s)

set_option maxRecDepth 100000 in
set_option maxHeartbeats 2000000 in
theorem refWithout_calls (v : Value) (ps : List RF) (hps : ps.length ≤ 1000000) (s : ByteArray) (base : Nat) (w : World) (hbase : base ≤ w.heap.size) (h : FilesAt w base v ps) : Calls Try.prog 53 #[v, .string s] w (FilesO w base (ps.filter (neN s))) := by
  obtain ⟨A, cap, rfl⟩ := h.form
  obtain ⟨N, hN⟩ : ∃ N, ps.length = N := ⟨_, rfl⟩
  have HN := Lib.hid hN
  have H := Lib.hid h
  rw [hN] at hps H ⊢
  clear h hN
  go_enter Try.func53, Try.ntmps53
  go_wp2_with fail
  go_loopw [5, 6] (fun o i wr => ∃ (k n : Nat) (A2 : Option Addr) (c2 : Nat), o = .slice A2 n c2 ∧ i = .int .i64 k ∧ k ≤ N ∧ Hid (((ps.take k).filter (neN s)).length = n ∧ wr.ownsRow w.heap.size 71 2 (.slice A2 n c2) n (flatF ((ps.take k).filter (neN s)))) ∧ Hid (Below w.heap.size w wr)) (fun o i _ => N - (intOf i).toNat)
  case atStart => exact ⟨0, 0, none, 0, rfl, rfl, Nat.zero_le _, Lib.hid ⟨by simp, rfl, .inl ⟨rfl, rfl⟩⟩, Lib.hid (Below.refl _ _)⟩
  case round =>
    obtain ⟨k, n, A2, c2, rfl, rfl, hk, HO, HB⟩ := hrel
    by_cases hlt : k < N
    · have hkp : k < ps.length := by rw [HN.out]; exact hlt
      obtain ⟨hnc, g, rfl, hg, c0, c1⟩ := (H.out.below HB.out).cell (i := k) hkp
      obtain ⟨x, hx⟩ : ∃ x, ps[k].1.1 = x := ⟨_, rfl⟩
      obtain ⟨Ax, cx, hvx, _⟩ := (H.out.2 ps[k] (List.getElem_mem _)).form
      obtain ⟨M, hM⟩ : ∃ M, ps[k].1.2.length = M := ⟨_, rfl⟩
      rw [hM] at hvx
      rw [hx] at c0
      rw [hvx] at c1
      have hltI : (k : Int) < (N : Int) := by omega
      have hncI : (N : Int) ≤ (cap : Int) := by omega
      have hgw : g < w.heap.size := by have := H.out.1.lt g rfl; exact this.2
      by_cases he : x = s
      · subst he
        have hc : (x.toList == x.toList) = true := by simp
        have e1 : (ps.take (k + 1)).filter (neN x) = (ps.take k).filter (neN x) := by
          rw [List.take_succ_eq_append_getElem hkp, List.filter_append]
          have : neN x ps[k] = false := by simp [neN, hx]
          simp [this]
        have HO2 : Hid (((ps.take (k + 1)).filter (neN x)).length = n ∧ wr.ownsRow w.heap.size 71 2 (.slice A2 n c2) n (flatF ((ps.take (k + 1)).filter (neN x)))) := Lib.hid (by rw [e1]; exact HO.out)
        clear HO e1 hx hM hvx c1
        go_wp2_with fail
        go_roundw
        case rel => exact ⟨k + 1, n, A2, c2, rfl, by go_num, by omega, HO2, HB⟩
        case measure => simp [intOf]; omega
      · have hc : (x.toList == s.toList) = false := by
          rw [beq_eq_false_iff_ne]
          intro h0
          apply he
          rw [Lib.toList_data, Lib.toList_data] at h0
          exact ByteArray.ext (Array.toList_inj.1 h0)
        obtain ⟨hn, hrow⟩ := HO.out
        have hle : ((ps.take k).filter (neN s)).length ≤ N := Nat.le_trans (List.length_filter_le _ _) (by rw [List.length_take]; omega)
        have hBa := HB.out.alloc HB.out.size (.cells #[.string x, .slice Ax M cx] 71)
        rw [← hn] at hrow
        obtain ⟨A3, c3, w3, R3, O3, B3⟩ := rowF_append (W := wr.alloc (.cells #[.string x, .slice Ax M cx] 71)) (hrow.alloc _) hBa.size 29 wr.heap.size ps[k] (by rw [hx, hvx]; simp only [World.alloc, Array.getElem?_push_size]) (by rw [hvx]; rfl) (by omega)
        have e1 : (ps.take (k + 1)).filter (neN s) = (ps.take k).filter (neN s) ++ [ps[k]] := by
          rw [List.take_succ_eq_append_getElem hkp, List.filter_append]
          have : neN s ps[k] = true := by simp [neN, hx, he]
          simp [this]
        rw [← e1, hn] at O3
        rw [hn] at R3
        have HO2 : Hid (((ps.take (k + 1)).filter (neN s)).length = n + 1 ∧ w3.ownsRow w.heap.size 71 2 (.slice A3 (n + 1) c3) (n + 1) (flatF ((ps.take (k + 1)).filter (neN s)))) := Lib.hid ⟨by rw [e1, List.length_append, hn]; rfl, O3⟩
        have HB2 := Lib.hid (hBa.trans B3)
        have R3' := Lib.hid R3
        clear R3 O3 B3 hBa e1 hrow hn HO HB hx hM hvx he
        go_wp2_with (at_builtin; refine wpList_append_ran rfl _ _ _ rfl rfl rfl R3'.out ?_)
        go_roundw
        case rel => exact ⟨k + 1, n + 1, A3, c3, rfl, by go_num, by omega, HO2, HB2⟩
        case measure => simp [intOf]; omega
    · obtain rfl : k = N := by omega
      have HF : Hid (FilesO w base (ps.filter (neN s)) (.returned (.slice A2 n c2)) wr) := by
        obtain ⟨hn, hrow⟩ := HO.out
        rw [List.take_of_length_le (by rw [HN.out]; exact Nat.le_refl _)] at hn hrow
        subst hn
        exact Lib.hid ⟨A2, c2, rfl, ⟨⟨row_lower hrow hbase, fun p hp => (H.out.2 p (List.mem_filter.1 hp).1).below HB.out⟩, row_new hrow⟩, HB.out⟩
      clear HO HB
      go_wp2_with fail
      go_ret
      exact HF.out

end Go.Proofs.Ytnjjjalenhbicaa.Disk
