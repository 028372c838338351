/-
  Put together out of texts of one chain: what they hold stands ahead of each.
-/
import Derived.Test.YtnjjjalenhbicaaGDiskStands26
import Derived.Laws.Cover1
import Derived.Test.YtnjjjalenhbicaaGDiskStands21
/-
  The contract of the document's disk's with.
-/
namespace Go.Proofs.Ytnjjjalenhbicaa.Disk
open Go Go.RowKit Go.Sort Go.Lib Go.Proofs.Ytnjjjalenhbicaa.Law

/-- A row of files that is being built. -/
def RowO (b2 : Nat) (W : World) (A : Option Addr) (n c : Nat) (l : List RF) : Prop := l.length = n ∧ W.ownsRow b2 71 2 (.slice A n c) n (flatF l)
theorem rowO_append {W : World} {b2 n c : Nat} {A : Option Addr} {l : List RF} (h : RowO b2 W A n c l) (hb : b2 ≤ W.heap.size) (hn : n ≤ 1000000000) (ty : TypeId) (x : RF) {name : ByteArray} {dA : Option Addr} {dl dc : Nat} (hx : x.1.1 = name) (hv : x.2 = .slice dA dl dc) :
    ∃ A' c' W', (Builtin.append_ #[29, 29] ty #[.slice A n c, .slice (some ⟨W.heap.size, 0, none⟩) 1 1]).run Try.prog (W.alloc (.cells #[.string name, .slice dA dl dc] 71)) = .ok (.slice A' (n + 1) c') W' ∧ RowO b2 W' A' (n + 1) c' (l ++ [x]) ∧ Below b2 W W' := by
  obtain ⟨hl, hrow⟩ := h
  subst hl
  have hBa := (Below.refl b2 W).alloc hb (.cells #[.string name, .slice dA dl dc] 71)
  obtain ⟨A3, c3, w3, R3, O3, B3⟩ := rowF_append (W := W.alloc (.cells #[.string name, .slice dA dl dc] 71)) (hrow.alloc _) (Nat.le_trans hb hBa.size) ty W.heap.size x (by rw [hx, hv]; simp only [World.alloc, Array.getElem?_push_size]) (by rw [hv]; rfl) hn
  exact ⟨A3, c3, w3, R3, ⟨by simp, O3⟩, hBa.trans B3⟩

theorem bytesLess_irr : ∀ l : List UInt8, Op.bytesLess l l = false
  | [] => rfl
  | a :: l => by
    have h : ¬ a < a := by intro h; exact Nat.lt_irrefl _ (UInt8.lt_iff_toNat_lt.1 h)
    simp [Op.bytesLess, bytesLess_irr l, h]
/-- The order of names. -/
def ltN (a b : ByteArray) : Bool := Op.bytesLess a.toList b.toList
def stepW (s : ByteArray) (x : RF) (st : List RF × Bool) (p : RF) : List RF × Bool :=
  let st1 := if st.2 = false ∧ ltN p.1.1 s = false then (st.1 ++ [x], true) else st
  (if p.1.1 ≠ s then st1.1 ++ [p] else st1.1, st1.2)
def withS (s : ByteArray) (x : RF) (l : List RF) : List RF × Bool := l.foldl (stepW s x) ([], false)
def withF (s : ByteArray) (x : RF) (l : List RF) : List RF := if (withS s x l).2 then (withS s x l).1 else (withS s x l).1 ++ [x]
theorem withS_succ (s : ByteArray) (x : RF) (l : List RF) (k : Nat) (hk : k < l.length) : withS s x (l.take (k + 1)) = stepW s x (withS s x (l.take k)) l[k] := by
  rw [withS, List.take_succ_eq_append_getElem hk, List.foldl_append]; rfl
theorem stepW_le (s : ByteArray) (x : RF) (st : List RF × Bool) (p : RF) : (stepW s x st p).1.length ≤ st.1.length + 2 := by
  unfold stepW
  by_cases h1 : st.2 = false ∧ ltN p.1.1 s = false <;> by_cases h2 : p.1.1 ≠ s <;> simp [h1, h2]
theorem stepW_mem (s : ByteArray) (x : RF) (st : List RF × Bool) (p q : RF) (h : q ∈ (stepW s x st p).1) : q ∈ st.1 ∨ q = x ∨ q = p := by
  unfold stepW at h
  by_cases h1 : st.2 = false ∧ ltN p.1.1 s = false <;> by_cases h2 : p.1.1 ≠ s <;> simp only [h1, h2, and_self, if_true, if_false, ne_eq, not_false_eq_true, List.mem_append, List.mem_singleton] at h <;> (first | exact .inl h | (rcases h with (h | h) | h <;> simp [h]) | (rcases h with h | h <;> simp [h]))
theorem withS_le (s : ByteArray) (x : RF) (l : List RF) : ∀ k, k ≤ l.length → (withS s x (l.take k)).1.length ≤ 2 * k
  | 0, _ => by simp [withS]
  | k + 1, hk => by
    rw [withS_succ s x l k (by omega)]
    have := withS_le s x l k (by omega)
    have := stepW_le s x (withS s x (l.take k)) l[k]
    omega
theorem withS_mem (s : ByteArray) (x : RF) (l : List RF) (q : RF) : ∀ k, k ≤ l.length → q ∈ (withS s x (l.take k)).1 → q ∈ l ∨ q = x
  | 0, _, h => by simp [withS] at h
  | k + 1, hk, h => by
    rw [withS_succ s x l k (by omega)] at h
    rcases stepW_mem _ _ _ _ _ h with h | h | h
    · exact withS_mem s x l q k (by omega) h
    · exact .inr h
    · left; rw [h]; exact List.getElem_mem _

set_option maxRecDepth 100000 in
set_option maxHeartbeats 2000000 in
theorem refWith_calls (v dv : Value) (ps : List RF) (hps : ps.length ≤ 1000000) (s : ByteArray) (ds : List Nat) (base : Nat) (w : World) (hbase : base ≤ w.heap.size) (h : FilesAt w base v ps) (hd : Buf w base 5 dv ds) : Calls Try.prog 51 #[v, .string s, dv] w (FilesO w base (withF s ((s, ds), dv) ps)) := by
  obtain ⟨A, cap, rfl⟩ := h.form
  obtain ⟨dA, dc, rfl, _⟩ := hd.form
  obtain ⟨dl, hdl⟩ : ∃ dl, ds.length = dl := ⟨_, rfl⟩
  rw [hdl] at hd ⊢
  obtain ⟨X, hX⟩ : ∃ X : RF, ((s, ds), Value.slice dA dl dc) = X := ⟨_, rfl⟩
  have hX1 : X.1.1 = s := by rw [← hX]
  have hX2 : X.2 = .slice dA dl dc := by rw [← hX]
  have HXB : Hid (Buf w base 5 X.2 X.1.2) := Lib.hid (by rw [← hX]; exact hd)
  rw [hX]
  have HX1 := Lib.hid hX1
  have HX2 := Lib.hid hX2
  clear hX1 hX2 hX hd hdl
  obtain ⟨N, hN⟩ : ∃ N, ps.length = N := ⟨_, rfl⟩
  have HN := Lib.hid hN
  have H := Lib.hid h
  rw [hN] at hps H ⊢
  clear h hN
  go_enter Try.func51, Try.ntmps51
  go_wp2_with fail
  go_loopw [7, 8, 9] (fun o d i wr => ∃ (k n : Nat) (A2 : Option Addr) (c2 : Nat) (dn : Bool), o = .slice A2 n c2 ∧ d = .bool dn ∧ i = .int .i64 k ∧ k ≤ N ∧ n ≤ 2 * k ∧ Hid ((withS s X (ps.take k)).2 = dn) ∧ Hid (RowO w.heap.size wr A2 n c2 (withS s X (ps.take k)).1) ∧ Hid (Below w.heap.size w wr)) (fun o d i _ => N - (intOf i).toNat)
  case atStart => exact ⟨0, 0, none, 0, false, rfl, rfl, rfl, Nat.zero_le _, Nat.zero_le _, Lib.hid rfl, Lib.hid ⟨rfl, rfl, .inl ⟨rfl, rfl⟩⟩, Lib.hid (Below.refl _ _)⟩
  case round =>
    obtain ⟨k, n, A2, c2, dn, rfl, rfl, rfl, hk, hnk, HD, HO, HB⟩ := hrel
    by_cases hlt : k < N
    · have hkp : k < ps.length := by rw [HN.out]; exact hlt
      obtain ⟨hnc, g, rfl, hg, c0, c1⟩ := (H.out.below HB.out).cell (i := k) hkp
      obtain ⟨x, hx⟩ : ∃ x, ps[k].1.1 = x := ⟨_, rfl⟩
      obtain ⟨Ax, cx, hvx, _⟩ := (H.out.2 ps[k] (List.getElem_mem _)).form
      obtain ⟨M, hM⟩ : ∃ M, ps[k].1.2.length = M := ⟨_, rfl⟩
      rw [hM] at hvx
      rw [hx] at c0
      rw [hvx] at c1
      have hltI : (k : Int) < (N : Int) := by omega
      have hncI : (N : Int) ≤ (cap : Int) := by omega
      have hgw : g < w.heap.size := by have := H.out.1.lt g rfl; exact this.2
      have HST := Lib.hid (withS_succ s X ps k hkp)
      obtain ⟨P, hP⟩ : ∃ P, ps[k] = P := ⟨_, rfl⟩
      rw [hP] at hx hvx HST
      have HPE := Lib.hid hP
      have HPX := Lib.hid hx
      have HPV := Lib.hid hvx
      clear hP hM hx hvx
      have hne : ∀ he : x ≠ s, (x.toList == s.toList) = false := fun he => by
        rw [beq_eq_false_iff_ne]
        intro h0
        apply he
        rw [Lib.toList_data, Lib.toList_data] at h0
        exact ByteArray.ext (Array.toList_inj.1 h0)
      have HNE := Lib.hid hne
      clear hne
      cases dn with
      | true =>
        by_cases he : x = s
        · subst he
          have hc : (x.toList == x.toList) = true := by simp
          have e1 : withS x X (ps.take (k + 1)) = ((withS x X (ps.take k)).1, true) := by rw [HST.out, stepW]; simp [HD.out, HPX.out]
          have HO2 : Hid (RowO w.heap.size wr A2 n c2 (withS x X (ps.take (k + 1))).1) := Lib.hid (by rw [e1]; exact HO.out)
          have HD2 : Hid ((withS x X (ps.take (k + 1))).2 = true) := Lib.hid (by rw [e1])
          clear HO HD e1 c1 HST
          go_wp2_with fail
          go_roundw
          case rel => exact ⟨k + 1, n, A2, c2, true, rfl, rfl, by go_num, by omega, by omega, HD2, HO2, HB⟩
          case measure => simp [intOf]; omega
        · have hc := HNE.out he
          have e1 : withS s X (ps.take (k + 1)) = ((withS s X (ps.take k)).1 ++ [P], true) := by rw [HST.out, stepW]; simp [HD.out, HPX.out, he]
          obtain ⟨A3, c3, w3, R3, O3, B3⟩ := rowO_append HO.out HB.out.size (by omega) 29 P HPX.out HPV.out
          have HO2 : Hid (RowO w.heap.size w3 A3 (n + 1) c3 (withS s X (ps.take (k + 1))).1) := Lib.hid (by rw [e1]; exact O3)
          have HD2 : Hid ((withS s X (ps.take (k + 1))).2 = true) := Lib.hid (by rw [e1])
          have HB2 := Lib.hid (HB.out.trans B3)
          have R3' := Lib.hid R3
          clear HO HD e1 HST R3 O3 B3 HB he
          go_wp2_with (at_builtin; refine wpList_append_ran rfl _ _ _ rfl rfl rfl R3'.out ?_)
          go_roundw
          case rel => exact ⟨k + 1, n + 1, A3, c3, true, rfl, rfl, by go_num, by omega, by omega, HD2, HO2, HB2⟩
          case measure => simp [intOf]; omega
      | false =>
        by_cases hl : ltN x s = true
        · have he : x ≠ s := by
            rintro rfl
            rw [ltN, bytesLess_irr] at hl
            exact absurd hl (by decide)
          have hc := HNE.out he
          have hlt0 : Op.bytesLess x.toList s.toList = true := hl
          have e1 : withS s X (ps.take (k + 1)) = ((withS s X (ps.take k)).1 ++ [P], false) := by rw [HST.out, stepW]; simp [HD.out, HPX.out, he, hl]
          obtain ⟨A3, c3, w3, R3, O3, B3⟩ := rowO_append HO.out HB.out.size (by omega) 29 P HPX.out HPV.out
          have HO2 : Hid (RowO w.heap.size w3 A3 (n + 1) c3 (withS s X (ps.take (k + 1))).1) := Lib.hid (by rw [e1]; exact O3)
          have HD2 : Hid ((withS s X (ps.take (k + 1))).2 = false) := Lib.hid (by rw [e1])
          have HB2 := Lib.hid (HB.out.trans B3)
          have R3' := Lib.hid R3
          clear HO HD e1 HST R3 O3 B3 HB he hl
          go_wp2_with (at_builtin; refine wpList_append_ran rfl _ _ _ rfl rfl rfl R3'.out ?_)
          go_roundw
          case rel => exact ⟨k + 1, n + 1, A3, c3, false, rfl, rfl, by go_num, by omega, by omega, HD2, HO2, HB2⟩
          case measure => simp [intOf]; omega
        · have hl' : ltN x s = false := by simpa using hl
          have hlt0 : Op.bytesLess x.toList s.toList = false := hl'
          obtain ⟨A3, c3, w3, R3, O3, B3⟩ := rowO_append HO.out HB.out.size (by omega) 29 X HX1.out HX2.out
          have hB3 := HB.out.trans B3
          have R3' := Lib.hid R3
          by_cases he : x = s
          · subst he
            have hc : (x.toList == x.toList) = true := by simp
            have e1 : withS x X (ps.take (k + 1)) = ((withS x X (ps.take k)).1 ++ [X], true) := by rw [HST.out, stepW]; simp [HD.out, HPX.out, hl']
            have HO2 : Hid (RowO w.heap.size w3 A3 (n + 1) c3 (withS x X (ps.take (k + 1))).1) := Lib.hid (by rw [e1]; exact O3)
            have HD2 : Hid ((withS x X (ps.take (k + 1))).2 = true) := Lib.hid (by rw [e1])
            have HB2 := Lib.hid hB3
            have c0' := ((H.out.below hB3).cell (i := k) hkp)
            obtain ⟨_, g', hg', _, c0', _⟩ := c0'
            simp only [Option.some.injEq, Addr.mk.injEq, and_true] at hg'
            subst hg'
            rw [HPE.out, HPX.out] at c0'
            clear HO HD e1 HST R3 O3 B3 HB hl hl' hB3
            go_wp2_with (at_builtin; refine wpList_append_ran rfl _ _ _ rfl rfl rfl R3'.out ?_)
            go_roundw
            case rel => exact ⟨k + 1, n + 1, A3, c3, true, rfl, rfl, by go_num, by omega, by omega, HD2, HO2, HB2⟩
            case measure => simp [intOf]; omega
          · have hc := HNE.out he
            have e1 : withS s X (ps.take (k + 1)) = ((withS s X (ps.take k)).1 ++ [X] ++ [P], true) := by rw [HST.out, stepW]; simp [HD.out, HPX.out, hl', he]
            obtain ⟨_, g', hg', _, c0', c1'⟩ := ((H.out.below hB3).cell (i := k) hkp)
            simp only [Option.some.injEq, Addr.mk.injEq, and_true] at hg'
            subst hg'
            rw [HPE.out, HPX.out] at c0'
            rw [HPE.out, HPV.out] at c1'
            obtain ⟨A4, c4, w4, R4, O4, B4⟩ := rowO_append O3 hB3.size (by omega) 29 P HPX.out HPV.out
            have HO2 : Hid (RowO w.heap.size w4 A4 (n + 1 + 1) c4 (withS s X (ps.take (k + 1))).1) := Lib.hid (by rw [e1]; exact O4)
            have HD2 : Hid ((withS s X (ps.take (k + 1))).2 = true) := Lib.hid (by rw [e1])
            have HB2 := Lib.hid (hB3.trans B4)
            have R4' := Lib.hid R4
            clear HO HD e1 HST R3 O3 B3 HB hl hl' hB3 R4 O4 B4 he
            go_wp2_with (first | (at_builtin; refine wpList_append_ran rfl _ _ _ rfl rfl rfl R3'.out ?_) | (at_builtin; refine wpList_append_ran rfl _ _ _ rfl rfl rfl R4'.out ?_))
            go_roundw
            case rel => exact ⟨k + 1, n + 1 + 1, A4, c4, true, rfl, rfl, by go_num, by omega, by omega, HD2, HO2, HB2⟩
            case measure => simp [intOf]; omega
    · obtain rfl : k = N := by omega
      have htk : ps.take k = ps := List.take_of_length_le (by rw [HN.out]; exact Nat.le_refl _)
      rw [htk] at HD HO
      have hmem : ∀ (W : World), Below w.heap.size w W → ∀ q, q ∈ ps ∨ q = X → Buf W base 5 q.2 q.1.2 := fun W hB q hq => by
        rcases hq with hq | rfl
        · exact (H.out.2 q hq).below hB
        · exact HXB.out.below hB
      have hms : ∀ q ∈ (withS s X ps).1, q ∈ ps ∨ q = X := fun q hq => by
        have := withS_mem s X ps q ps.length (Nat.le_refl _)
        rw [List.take_length] at this
        exact this hq
      cases dn with
      | true =>
        have e1 : withF s X ps = (withS s X ps).1 := by rw [withF, HD.out]; rfl
        have HF : Hid (FilesO w base (withF s X ps) (.returned (.slice A2 n c2)) wr) := by
          obtain ⟨hn, hrow⟩ := HO.out
          rw [← e1] at hn hrow hms
          subst hn
          exact Lib.hid ⟨A2, c2, rfl, ⟨⟨row_lower hrow hbase, fun p hp => hmem wr HB.out p (hms p hp)⟩, row_new hrow⟩, HB.out⟩
        clear HO HB HD e1 hmem hms htk
        go_wp2_with fail
        go_ret
        exact HF.out
      | false =>
        have e1 : withF s X ps = (withS s X ps).1 ++ [X] := by rw [withF, HD.out]; rfl
        obtain ⟨A3, c3, w3, R3, O3, B3⟩ := rowO_append HO.out HB.out.size (by omega) 29 X HX1.out HX2.out
        have HF : Hid (FilesO w base (withF s X ps) (.returned (.slice A3 (n + 1) c3)) w3) := by
          have hB3 := HB.out.trans B3
          obtain ⟨hn, hrow⟩ := O3
          rw [← e1] at hn hrow
          rw [← hn] at hrow ⊢
          exact Lib.hid ⟨A3, c3, rfl, ⟨⟨row_lower hrow hbase, fun p hp => hmem w3 hB3 p (by
            rw [e1, List.mem_append, List.mem_singleton] at hp
            exact hp.elim (hms p) .inr)⟩, row_new hrow⟩, hB3⟩
        have R3' := Lib.hid R3
        clear HO HB HD e1 hmem hms htk R3 O3 B3
        go_wp2_with (at_builtin; refine wpList_append_ran rfl _ _ _ rfl rfl rfl R3'.out ?_)
        go_ret
        exact HF.out

end Go.Proofs.Ytnjjjalenhbicaa.Disk

/-
  The contract of the document's disk's Used; rows of its changes; the whole of it.
-/
namespace Go.Proofs.Ytnjjjalenhbicaa.Disk
open Go Go.RowKit Go.Sort Go.Lib Go.Proofs.Ytnjjjalenhbicaa.Law

def usedF (ps : List RF) : Nat := (ps.map fun p => p.1.2.length).sum
theorem usedF_succ (ps : List RF) (k : Nat) (hk : k < ps.length) : usedF (ps.take (k + 1)) = usedF (ps.take k) + ps[k].1.2.length := by
  rw [usedF, List.take_succ_eq_append_getElem hk, List.map_append, List.sum_append]; simp [usedF]
theorem usedF_le (ps : List RF) : ∀ k, usedF (ps.take k) ≤ usedF ps := fun k => by
  have : usedF ps = usedF (ps.take k) + usedF (ps.drop k) := by
    rw [usedF, usedF, usedF, ← List.sum_append, ← List.map_append, List.take_append_drop]
  omega

set_option maxRecDepth 100000 in
set_option maxHeartbeats 2000000 in
theorem refUsed_calls (q : Nat) (room : Int) (fails : Bool) (v sv cv : Value) (ps : List RF) (hps : ps.length ≤ 1000000) (hu : usedF ps ≤ 1152921504606846976) (base : Nat) (w : World) (hq : RD w q room fails v sv cv) (h : FilesAt w base v ps) :
    Calls Try.prog 36 #[.pointer (some ⟨q, 0, none⟩)] w fun e W => e = .returned (.int .i64 (usedF ps : Nat)) ∧ W = w := by
  obtain ⟨A, cap, rfl⟩ := h.form
  obtain ⟨⟨_, _, cq, _, _⟩, _⟩ := hq.cells
  obtain ⟨N, hN⟩ : ∃ N, ps.length = N := ⟨_, rfl⟩
  obtain ⟨U, hU⟩ : ∃ U, usedF ps = U := ⟨_, rfl⟩
  have HN := Lib.hid hN
  have HU := Lib.hid hU
  have H := Lib.hid h
  rw [hN] at hps H cq
  rw [hU] at hu ⊢
  clear h hN hU hq
  go_enter Try.func36, Try.ntmps36
  go_wp2_with fail
  go_loopw [3, 4] (fun u i wr => ∃ (k n : Nat), u = .int .i64 n ∧ i = .int .i64 k ∧ k ≤ N ∧ Hid (usedF (ps.take k) = n) ∧ wr = w) (fun u i _ => N - (intOf i).toNat)
  case atStart => exact ⟨0, 0, rfl, rfl, Nat.zero_le _, Lib.hid rfl, rfl⟩
  case round =>
    obtain ⟨k, n, rfl, rfl, hk, HS, rfl⟩ := hrel
    by_cases hlt : k < N
    · have hkp : k < ps.length := by rw [HN.out]; exact hlt
      obtain ⟨hnc, g, rfl, hg, c0, c1⟩ := H.out.cell (i := k) hkp
      obtain ⟨Ax, cx, hvx, _⟩ := (H.out.2 ps[k] (List.getElem_mem _)).form
      obtain ⟨M, hM⟩ : ∃ M, ps[k].1.2.length = M := ⟨_, rfl⟩
      rw [hM] at hvx
      rw [hvx] at c1
      have hltI : (k : Int) < (N : Int) := by omega
      have hncI : (N : Int) ≤ (cap : Int) := by omega
      have e1 := usedF_succ ps k hkp
      rw [hM, HS.out] at e1
      have hle : n + M ≤ U := by rw [← e1, ← HU.out]; exact usedF_le _ _
      obtain ⟨T, hT⟩ : ∃ T, n + M = T := ⟨_, rfl⟩
      have hTI : (n : Int) + (M : Int) = (T : Int) := by omega
      rw [hT] at e1
      have E1 := Lib.hid e1
      have hTu : (T : Int) ≤ 1152921504606846976 := by omega
      clear e1 hM hvx c0 hT hle HS
      go_wp2_with fail
      go_roundw
      case rel => exact ⟨k + 1, T, by first | rfl | go_num, by go_num, by omega, E1, trivial⟩
      case measure => simp [intOf]; omega
    · obtain rfl : k = N := by omega
      have hn : n = U := by
        rw [← HS.out, List.take_of_length_le (by rw [HN.out]; exact Nat.le_refl _), HU.out]
      subst hn
      clear HS
      go_wp2_with fail
      go_ret
      exact ⟨rfl, rfl⟩

end Go.Proofs.Ytnjjjalenhbicaa.Disk
