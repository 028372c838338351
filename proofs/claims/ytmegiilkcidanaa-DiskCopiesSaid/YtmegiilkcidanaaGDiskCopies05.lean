/-
  Put together out of texts of one chain: what they hold stands ahead of each.
-/
import Derived.Test.YtmegiilkcidanaaGDiskCopies04
import Derived.Test.YtmegiilkcidanaaOwnRows
import Derived.Laws.Cover1
import Derived.Test.YtmegiilkcidanaaFrm
/-
  Contracts of the document's disk: without.
-/
namespace Go.Proofs.Ytmegiilkcidanaa.Disk
open Go Go.RowKit Go.Sort Go.Lib Go.Proofs.Ytmegiilkcidanaa.Law

theorem info_file : (Try.prog.info? 71).map (fun i => (i.zero, i.size, i.bytes)) = some (some (.agg #[.string ⟨#[]⟩, .slice none 0 0]), 2, 40) := by kernel_rfl
theorem flatF_one : ∀ l : List RF, (∀ p ∈ l, p.2.oneCell' = true) → ∀ u ∈ flatF l, u.oneCell' = true
  | [], _, u, h => by simp [flatF] at h
  | p :: r, hl, u, h => by
    simp only [flatF, List.mem_cons] at h
    rcases h with rfl | rfl | h
    · rfl
    · exact hl p (by simp)
    · exact flatF_one r (fun q hq => hl q (by simp [hq])) u h
/-- A file that lies in a block is put behind a row that is being built. -/
theorem rowF_append {W : World} {b2 : Nat} {v : Value} {ps : List RF} (h : W.ownsRow b2 71 2 v ps.length (flatF ps)) (hbase : b2 ≤ W.heap.size) (ty : TypeId) (b : Nat) (x : RF)
    (hm : W.heap[b]? = some (.cells #[.string x.1.1, x.2] 71 (0, 0))) (hone : x.2.oneCell' = true) (hroom : ps.length ≤ 1000000000) :
    ∃ A' c' W', (Builtin.append_ #[29, 29] ty #[v, .slice (some ⟨b, 0, none⟩) 1 1]).run Try.prog W = .ok (.slice A' (ps.length + 1) c') W' ∧ W'.ownsRow b2 71 2 (.slice A' (ps.length + 1) c') (ps.length + 1) (flatF (ps ++ [x])) ∧ Below b2 W W' := by
  obtain ⟨i0, hi, hz0, hz1, hz2⟩ := info_parts info_file
  obtain ⟨v', W', hrun, h3, h4, _, _⟩ := run_append_own_at (P := Try.prog) W b2 29 ty 71 i0 _ 2 40 Try.underlying29 hi hz0 hz1 hz2 rfl (by decide) v ps.length (flatF ps) h ⟨b, 0, none⟩ 1 1 (flatF [x]) rfl
    (fun j w hw => by
      rw [Addr.add_lit]
      match j, hw with
      | 0, hw => simp [flatF] at hw; subst hw; simp [World.cell?, hm]
      | 1, hw => simp [flatF] at hw; subst hw; simp [World.cell?, hm]
      | j + 2, hw => simp [flatF] at hw) (flatF_one _ (by simpa using hone)) (by simp only [maxLen]; omega) (by omega) hbase
  obtain ⟨A', c', rfl⟩ := row_form h3
  exact ⟨A', c', W', hrun, by rw [flatF_append]; exact h3, (Below.refl b2 W).grown h4 hbase (fun k hk => (h.lt k hk).1)⟩

/-- A row of files in a block that isn't older than n. -/
def FilesN (n : Nat) (W : World) (base : Nat) (v : Value) (ps : List RF) : Prop := FilesAt W base v ps ∧ ∀ g, v.ownBlock = some g → n ≤ g
theorem FilesN.old {n m : Nat} {W : World} {base : Nat} {v : Value} {ps : List RF} (h : FilesN n W base v ps) (hm : m ≤ n) : FilesN m W base v ps := ⟨h.1, fun g hg => Nat.le_trans hm (h.2 g hg)⟩
theorem row_new {W : World} {base size n : Nat} {e : TypeId} {v : Value} {xs : List Value} (h : W.ownsRow base e size v n xs) : ∀ g, v.ownBlock = some g → base ≤ g := fun g hg => by
  rcases h.2 with ⟨rfl, _⟩ | ⟨g', cap, cur, rfl, h1, _⟩
  · cases hg
  · simp only [Value.ownBlock, Option.some.injEq] at hg
    subst hg
    exact h1
/-- What `with` and `without` leave: files of the call's own row. -/
def FilesO (w : World) (base : Nat) (out : List RF) (e : Ending) (W : World) : Prop := ∃ A c, e = .returned (.slice A out.length c) ∧ FilesN w.heap.size W base (.slice A out.length c) out ∧ Below w.heap.size w W

def neN (s : ByteArray) (p : RF) : Bool := decide (p.1.1 ≠ s)

set_option maxRecDepth 100000 in
set_option maxHeartbeats 2000000 in
theorem refWithout_calls (v : Value) (ps : List RF) (hps : ps.length ≤ 1000000) (s : ByteArray) (base : Nat) (w : World) (hbase : base ≤ w.heap.size) (h : FilesAt w base v ps) : Calls Try.prog 53 #[v, .string s] w (FilesO w base (ps.filter (neN s))) := by
  obtain ⟨A, cap, rfl⟩ := h.form
  obtain ⟨N, hN⟩ : ∃ N, ps.length = N := ⟨_, rfl⟩
  have HN := Lib.hid hN
  have H := Lib.hid h
  rw [hN] at hps H ⊢
  clear h hN
  go_enter Try.func53, Try.ntmps53
  go_wp2_with fail
  go_loopw [5, 6] (fun o i wr => ∃ (k n : Nat) (A2 : Option Addr) (c2 : Nat), o = .slice A2 n c2 ∧ i = .int .i64 k ∧ k ≤ N ∧ Hid (((ps.take k).filter (neN s)).length = n ∧ wr.ownsRow w.heap.size 71 2 (.slice A2 n c2) n (flatF ((ps.take k).filter (neN s)))) ∧ Hid (Below w.heap.size w wr)) (fun o i _ => N - (intOf i).toNat)
  case atStart => exact ⟨0, 0, none, 0, rfl, rfl, Nat.zero_le _, Lib.hid ⟨by simp, rfl, .inl ⟨rfl, rfl⟩⟩, Lib.hid (Below.refl _ _)⟩
  case round =>
    obtain ⟨k, n, A2, c2, rfl, rfl, hk, HO, HB⟩ := hrel
    by_cases hlt : k < N
    · have hkp : k < ps.length := by rw [HN.out]; exact hlt
      obtain ⟨hnc, g, rfl, hg, c0, c1⟩ := (H.out.below HB.out).cell (i := k) hkp
      obtain ⟨x, hx⟩ : ∃ x, ps[k].1.1 = x := ⟨_, rfl⟩
      obtain ⟨Ax, cx, hvx, _⟩ := (H.out.2 ps[k] (List.getElem_mem _)).form
      obtain ⟨M, hM⟩ : ∃ M, ps[k].1.2.length = M := ⟨_, rfl⟩
      rw [hM] at hvx
      rw [hx] at c0
      rw [hvx] at c1
      have hltI : (k : Int) < (N : Int) := by omega
      have hncI : (N : Int) ≤ (cap : Int) := by omega
      have hgw : g < w.heap.size := by have := H.out.1.lt g rfl; exact this.2
      by_cases he : x = s
      · subst he
        have hc : (x.toList == x.toList) = true := by simp
        have e1 : (ps.take (k + 1)).filter (neN x) = (ps.take k).filter (neN x) := by
          rw [List.take_succ_eq_append_getElem hkp, List.filter_append]
          have : neN x ps[k] = false := by simp [neN, hx]
          simp [this]
        have HO2 : Hid (((ps.take (k + 1)).filter (neN x)).length = n ∧ wr.ownsRow w.heap.size 71 2 (.slice A2 n c2) n (flatF ((ps.take (k + 1)).filter (neN x)))) := Lib.hid (by rw [e1]; exact HO.out)
        clear HO e1 hx hM hvx c1
        go_wp2_with fail
        go_roundw
        case rel => exact ⟨k + 1, n, A2, c2, rfl, by go_num, by omega, HO2, HB⟩
        case measure => simp [intOf]; omega
      · have hc : (x.toList == s.toList) = false := by
          rw [beq_eq_false_iff_ne]
          intro h0
          apply he
          rw [Lib.toList_data, Lib.toList_data] at h0
          exact ByteArray.ext (Array.toList_inj.1 h0)
        obtain ⟨hn, hrow⟩ := HO.out
        have hle : ((ps.take k).filter (neN s)).length ≤ N := Nat.le_trans (List.length_filter_le _ _) (by rw [List.length_take]; omega)
        have hBa := HB.out.alloc HB.out.size (.cells #[.string x, .slice Ax M cx] 71)
        rw [← hn] at hrow
        obtain ⟨A3, c3, w3, R3, O3, B3⟩ := rowF_append (W := wr.alloc (.cells #[.string x, .slice Ax M cx] 71)) (hrow.alloc _) hBa.size 29 wr.heap.size ps[k] (by rw [hx, hvx]; simp only [World.alloc, Array.getElem?_push_size]) (by rw [hvx]; rfl) (by omega)
        have e1 : (ps.take (k + 1)).filter (neN s) = (ps.take k).filter (neN s) ++ [ps[k]] := by
          rw [List.take_succ_eq_append_getElem hkp, List.filter_append]
          have : neN s ps[k] = true := by simp [neN, hx, he]
          simp [this]
        rw [← e1, hn] at O3
        rw [hn] at R3
        have HO2 : Hid (((ps.take (k + 1)).filter (neN s)).length = n + 1 ∧ w3.ownsRow w.heap.size 71 2 (.slice A3 (n + 1) c3) (n + 1) (flatF ((ps.take (k + 1)).filter (neN s)))) := Lib.hid ⟨by rw [e1, List.length_append, hn]; rfl, O3⟩
        have HB2 := Lib.hid (hBa.trans B3)
        have R3' := Lib.hid R3
        clear R3 O3 B3 hBa e1 hrow hn HO HB hx hM hvx he
        go_wp2_with (at_builtin; refine wpList_append_ran rfl _ _ _ rfl rfl rfl R3'.out ?_)
        go_roundw
        case rel => exact ⟨k + 1, n + 1, A3, c3, rfl, by go_num, by omega, HO2, HB2⟩
        case measure => simp [intOf]; omega
    · obtain rfl : k = N := by omega
      have HF : Hid (FilesO w base (ps.filter (neN s)) (.returned (.slice A2 n c2)) wr) := by
        obtain ⟨hn, hrow⟩ := HO.out
        rw [List.take_of_length_le (by rw [HN.out]; exact Nat.le_refl _)] at hn hrow
        subst hn
        exact Lib.hid ⟨A2, c2, rfl, ⟨⟨row_lower hrow hbase, fun p hp => (H.out.2 p (List.mem_filter.1 hp).1).below HB.out⟩, row_new hrow⟩, HB.out⟩
      clear HO HB
      go_wp2_with fail
      go_ret
      exact HF.out

end Go.Proofs.Ytmegiilkcidanaa.Disk

/-
  The contract of the document's disk's with.
-/
namespace Go.Proofs.Ytmegiilkcidanaa.Disk
open Go Go.RowKit Go.Sort Go.Lib Go.Proofs.Ytmegiilkcidanaa.Law

/-- A row of files that is being built. -/
def RowO (b2 : Nat) (W : World) (A : Option Addr) (n c : Nat) (l : List RF) : Prop := l.length = n ∧ W.ownsRow b2 71 2 (.slice A n c) n (flatF l)
theorem rowO_append {W : World} {b2 n c : Nat} {A : Option Addr} {l : List RF} (h : RowO b2 W A n c l) (hb : b2 ≤ W.heap.size) (hn : n ≤ 1000000000) (ty : TypeId) (x : RF) {name : ByteArray} {dA : Option Addr} {dl dc : Nat} (hx : x.1.1 = name) (hv : x.2 = .slice dA dl dc) :
    ∃ A' c' W', (Builtin.append_ #[29, 29] ty #[.slice A n c, .slice (some ⟨W.heap.size, 0, none⟩) 1 1]).run Try.prog (W.alloc (.cells #[.string name, .slice dA dl dc] 71)) = .ok (.slice A' (n + 1) c') W' ∧ RowO b2 W' A' (n + 1) c' (l ++ [x]) ∧ Below b2 W W' := by
  obtain ⟨hl, hrow⟩ := h
  subst hl
  have hBa := (Below.refl b2 W).alloc hb (.cells #[.string name, .slice dA dl dc] 71)
  obtain ⟨A3, c3, w3, R3, O3, B3⟩ := rowF_append (W := W.alloc (.cells #[.string name, .slice dA dl dc] 71)) (hrow.alloc _) (Nat.le_trans hb hBa.size) ty W.heap.size x (by rw [hx, hv]; simp only [World.alloc, Array.getElem?_push_size]) (by rw [hv]; rfl) hn
  exact ⟨A3, c3, w3, R3, ⟨by simp, O3⟩, hBa.trans B3⟩

theorem bytesLess_irr : ∀ l : List UInt8, Op.bytesLess l l = false
  | [] => rfl
  | a :: l => by
    have h : ¬ a < a := by intro h; exact Nat.lt_irrefl _ (UInt8.lt_iff_toNat_lt.1 h)
    simp [Op.bytesLess, bytesLess_irr l, h]
/-- The order of names. -/
def ltN (a b : ByteArray) : Bool := Op.bytesLess a.toList b.toList
def stepW (s : ByteArray) (x : RF) (st : List RF × Bool) (p : RF) : List RF × Bool :=
  let st1 := if st.2 = false ∧ ltN p.1.1 s = false then (st.1 ++ [x], true) else st
  (if p.1.1 ≠ s then st1.1 ++ [p] else st1.1, st1.2)
def withS (s : ByteArray) (x : RF) (l : List RF) : List RF × Bool := l.foldl (stepW s x) ([], false)
def withF (s : ByteArray) (x : RF) (l : List RF) : List RF := if (withS s x l).2 then (withS s x l).1 else (withS s x l).1 ++ [x]
theorem withS_succ (s : ByteArray) (x : RF) (l : List RF) (k : Nat) (hk : k < l.length) : withS s x (l.take (k + 1)) = stepW s x (withS s x (l.take k)) l[k] := by
  rw [withS, List.take_succ_eq_append_getElem hk, List.foldl_append]; rfl
theorem stepW_le (s : ByteArray) (x : RF) (st : List RF × Bool) (p : RF) : (stepW s x st p).1.length ≤ st.1.length + 2 := by
  unfold stepW
  by_cases h1 : st.2 = false ∧ ltN p.1.1 s = false <;> by_cases h2 : p.1.1 ≠ s <;> simp [h1, h2]
theorem stepW_mem (s : ByteArray) (x : RF) (st : List RF × Bool) (p q : RF) (h : q ∈ (stepW s x st p).1) : q ∈ st.1 ∨ q = x ∨ q = p := by
  unfold stepW at h
  by_cases h1 : st.2 = false ∧ ltN p.1.1 s = false <;> by_cases h2 : p.1.1 ≠ s <;> simp only [h1, h2, and_self, if_true, if_false, ne_eq, not_false_eq_true, List.mem_append, List.mem_singleton] at h <;> (first | exact .inl h | (rcases h with (h | h) | h <;> simp [h]) | (rcases h with h | h <;> simp [h]))
theorem withS_le (s : ByteArray) (x : RF) (l : List RF) : ∀ k, k ≤ l.length → (withS s x (l.take k)).1.length ≤ 2 * k
  | 0, _ => by simp [withS]
  | k + 1, hk => by
    rw [withS_succ s x l k (by omega)]
    have := withS_le s x l k (by omega)
    have := stepW_le s x (withS s x (l.take k)) l[k]
    omega
theorem withS_mem (s : ByteArray) (x : RF) (l : List RF) (q : RF) : ∀ k, k ≤ l.length → q ∈ (withS s x (l.take k)).1 → q ∈ l ∨ q = x
  | 0, _, h => by simp [withS] at h
  | k + 1, hk, h => by
    rw [withS_succ s x l k (by omega)] at h
    rcases stepW_mem _ _ _ _ _ h with h | h | h
    · exact withS_mem s x l q k (by omega) h
    · exact .inr h
    · left; rw [h]; exact List.getElem_mem _

set_option maxRecDepth 100000 in
set_option maxHeartbeats 2000000 in
theorem refWith_calls (v dv : Value) (ps : List RF) (hps : ps.length ≤ 1000000) (s : ByteArray) (ds : List Nat) (base : Nat) (w : World) (hbase : base ≤ w.heap.size) (h : FilesAt w base v ps) (hd : Buf w base 5 dv ds) : Calls Try.prog 51 #[v, .string s, dv] w (FilesO w base (withF s ((s, ds), dv) ps)) := by
  obtain ⟨A, cap, rfl⟩ := h.form
  obtain ⟨dA, dc, rfl, _⟩ := hd.form
  obtain ⟨dl, hdl⟩ : ∃ dl, ds.length = dl := ⟨_, rfl⟩
  rw [hdl] at hd ⊢
  obtain ⟨X, hX⟩ : ∃ X : RF, ((s, ds), Value.slice dA dl dc) = X := ⟨_, rfl⟩
  have hX1 : X.1.1 = s := by rw [← hX]
  have hX2 : X.2 = .slice dA dl dc := by rw [← hX]
  have HXB : Hid (Buf w base 5 X.2 X.1.2) := Lib.hid (by rw [← hX]; exact hd)
  rw [hX]
  have HX1 := Lib.hid hX1
  have HX2 := Lib.hid hX2
  clear hX1 hX2 hX hd hdl
  obtain ⟨N, hN⟩ : ∃ N, ps.length = N := ⟨_, rfl⟩
  have HN := Lib.hid hN
  have H := Lib.hid h
  rw [hN] at hps H ⊢
  clear h hN
  go_enter Try.func51, Try.ntmps51
  go_wp2_with fail
  go_loopw [7, 8, 9] (fun o d i wr => ∃ (k n : Nat) (A2 : Option Addr) (c2 : Nat) (dn : Bool), o = .slice A2 n c2 ∧ d = .bool dn ∧ i = .int .i64 k ∧ k ≤ N ∧ n ≤ 2 * k ∧ Hid ((withS s X (ps.take k)).2 = dn) ∧ Hid (RowO w.heap.size wr A2 n c2 (withS s X (ps.take k)).1) ∧ Hid (Below w.heap.size w wr)) (fun o d i _ => N - (intOf i).toNat)
  case atStart => exact ⟨0, 0, none, 0, false, rfl, rfl, rfl, Nat.zero_le _, Nat.zero_le _, Lib.hid rfl, Lib.hid ⟨rfl, rfl, .inl ⟨rfl, rfl⟩⟩, Lib.hid (Below.refl _ _)⟩
  case round =>
    obtain ⟨k, n, A2, c2, dn, rfl, rfl, rfl, hk, hnk, HD, HO, HB⟩ := hrel
    by_cases hlt : k < N
    · have hkp : k < ps.length := by rw [HN.out]; exact hlt
      obtain ⟨hnc, g, rfl, hg, c0, c1⟩ := (H.out.below HB.out).cell (i := k) hkp
      obtain ⟨x, hx⟩ : ∃ x, ps[k].1.1 = x := ⟨_, rfl⟩
      obtain ⟨Ax, cx, hvx, _⟩ := (H.out.2 ps[k] (List.getElem_mem _)).form
      obtain ⟨M, hM⟩ : ∃ M, ps[k].1.2.length = M := ⟨_, rfl⟩
      rw [hM] at hvx
      rw [hx] at c0
      rw [hvx] at c1
      have hltI : (k : Int) < (N : Int) := by omega
      have hncI : (N : Int) ≤ (cap : Int) := by omega
      have hgw : g < w.heap.size := by have := H.out.1.lt g rfl; exact this.2
      have HST := Lib.hid (withS_succ s X ps k hkp)
      obtain ⟨P, hP⟩ : ∃ P, ps[k] = P := ⟨_, rfl⟩
      rw [hP] at hx hvx HST
      have HPE := Lib.hid hP
      have HPX := Lib.hid hx
      have HPV := Lib.hid hvx
      clear hP hM hx hvx
      have hne : ∀ he : x ≠ s, (x.toList == s.toList) = false := fun he => by
        rw [beq_eq_false_iff_ne]
        intro h0
        apply he
        rw [Lib.toList_data, Lib.toList_data] at h0
        exact ByteArray.ext (Array.toList_inj.1 h0)
      have HNE := Lib.hid hne
      clear hne
      cases dn with
      | true =>
        by_cases he : x = s
        · subst he
          have hc : (x.toList == x.toList) = true := by simp
          have e1 : withS x X (ps.take (k + 1)) = ((withS x X (ps.take k)).1, true) := by rw [HST.out, stepW]; simp [HD.out, HPX.out]
          have HO2 : Hid (RowO w.heap.size wr A2 n c2 (withS x X (ps.take (k + 1))).1) := Lib.hid (by rw [e1]; exact HO.out)
          have HD2 : Hid ((withS x X (ps.take (k + 1))).2 = true) := Lib.hid (by rw [e1])
          clear HO HD e1 c1 HST
          go_wp2_with fail
          go_roundw
          case rel => exact ⟨k + 1, n, A2, c2, true, rfl, rfl, by go_num, by omega, by omega, HD2, HO2, HB⟩
          case measure => simp [intOf]; omega
        · have hc := HNE.out he
          have e1 : withS s X (ps.take (k + 1)) = ((withS s X (ps.take k)).1 ++ [P], true) := by rw [HST.out, stepW]; simp [HD.out, HPX.out, he]
          obtain ⟨A3, c3, w3, R3, O3, B3⟩ := rowO_append HO.out HB.out.size (by omega) 29 P HPX.out HPV.out
          have HO2 : Hid (RowO w.heap.size w3 A3 (n + 1) c3 (withS s X (ps.take (k + 1))).1) := Lib.hid (by rw [e1]; exact O3)
          have HD2 : Hid ((withS s X (ps.take (k + 1))).2 = true) := Lib.hid (by rw [e1])
          have HB2 := Lib.hid (HB.out.trans B3)
          have R3' := Lib.hid R3
          clear HO HD e1 HST R3 O3 B3 HB he
          go_wp2_with (at_builtin; refine wpList_append_ran rfl _ _ _ rfl rfl rfl R3'.out ?_)
          go_roundw
          case rel => exact ⟨k + 1, n + 1, A3, c3, true, rfl, rfl, by go_num, by omega, by omega, HD2, HO2, HB2⟩
          case measure => simp [intOf]; omega
      | false =>
        by_cases hl : ltN x s = true
        · have he : x ≠ s := by
            rintro rfl
            rw [ltN, bytesLess_irr] at hl
            exact absurd hl (by decide)
          have hc := HNE.out he
          have hlt0 : Op.bytesLess x.toList s.toList = true := hl
          have e1 : withS s X (ps.take (k + 1)) = ((withS s X (ps.take k)).1 ++ [P], false) := by rw [HST.out, stepW]; simp [HD.out, HPX.out, he, hl]
          obtain ⟨A3, c3, w3, R3, O3, B3⟩ := rowO_append HO.out HB.out.size (by omega) 29 P HPX.out HPV.out
          have HO2 : Hid (RowO w.heap.size w3 A3 (n + 1) c3 (withS s X (ps.take (k + 1))).1) := Lib.hid (by rw [e1]; exact O3)
          have HD2 : Hid ((withS s X (ps.take (k + 1))).2 = false) := Lib.hid (by rw [e1])
          have HB2 := Lib.hid (HB.out.trans B3)
          have R3' := Lib.hid R3
          clear HO HD e1 HST R3 O3 B3 HB he hl
          go_wp2_with (at_builtin; refine wpList_append_ran rfl _ _ _ rfl rfl rfl R3'.out ?_)
          go_roundw
          case rel => exact ⟨k + 1, n + 1, A3, c3, false, rfl, rfl, by go_num, by omega, by omega, HD2, HO2, HB2⟩
          case measure => simp [intOf]; omega
        · have hl' : ltN x s = false := by simpa using hl
          have hlt0 : Op.bytesLess x.toList s.toList = false := hl'
          obtain ⟨A3, c3, w3, R3, O3, B3⟩ := rowO_append HO.out HB.out.size (by omega) 29 X HX1.out HX2.out
          have hB3 := HB.out.trans B3
          have R3' := Lib.hid R3
          by_cases he : x = s
          · subst he
            have hc : (x.toList == x.toList) = true := by simp
            have e1 : withS x X (ps.take (k + 1)) = ((withS x X (ps.take k)).1 ++ [X], true) := by rw [HST.out, stepW]; simp [HD.out, HPX.out, hl']
            have HO2 : Hid (RowO w.heap.size w3 A3 (n + 1) c3 (withS x X (ps.take (k + 1))).1) := Lib.hid (by rw [e1]; exact O3)
            have HD2 : Hid ((withS x X (ps.take (k + 1))).2 = true) := Lib.hid (by rw [e1])
            have HB2 := Lib.hid hB3
            have c0' := ((H.out.below hB3).cell (i := k) hkp)
            obtain ⟨_, g', hg', _, c0', _⟩ := c0'
            simp only [Option.some.injEq, Addr.mk.injEq, and_true] at hg'
            subst hg'
            rw [HPE.out, HPX.out] at c0'
            clear HO HD e1 HST R3 O3 B3 HB hl hl' hB3
            go_wp2_with (at_builtin; refine wpList_append_ran rfl _ _ _ rfl rfl rfl R3'.out ?_)
            go_roundw
            case rel => exact ⟨k + 1, n + 1, A3, c3, true, rfl, rfl, by go_num, by omega, by omega, HD2, HO2, HB2⟩
            case measure => simp [intOf]; omega
          · have hc := HNE.out he
            have e1 : withS s X (ps.take (k + 1)) = ((withS s X (ps.take k)).1 ++ [X] ++ [P], true) := by rw [HST.out, stepW]; simp [HD.out, HPX.out, hl', he]
            obtain ⟨_, g', hg', _, c0', c1'⟩ := ((H.out.below hB3).cell (i := k) hkp)
            simp only [Option.some.injEq, Addr.mk.injEq, and_true] at hg'
            subst hg'
            rw [HPE.out, HPX.out] at c0'
            rw [HPE.out, HPV.out] at c1'
            obtain ⟨A4, c4, w4, R4, O4, B4⟩ := rowO_append O3 hB3.size (by omega) 29 P HPX.out HPV.out
            have HO2 : Hid (RowO w.heap.size w4 A4 (n + 1 + 1) c4 (withS s X (ps.take (k + 1))).1) := Lib.hid (by rw [e1]; exact O4)
            have HD2 : Hid ((withS s X (ps.take (k + 1))).2 = true) := Lib.hid (by rw [e1])
            have HB2 := Lib.hid (hB3.trans B4)
            have R4' := Lib.hid R4
            clear HO HD e1 HST R3 O3 B3 HB hl hl' hB3 R4 O4 B4 he
            go_wp2_with (first | (at_builtin; refine wpList_append_ran rfl _ _ _ rfl rfl rfl R3'.out ?_) | (at_builtin; refine wpList_append_ran rfl _ _ _ rfl rfl rfl R4'.out ?_))
            go_roundw
            case rel => exact ⟨k + 1, n + 1 + 1, A4, c4, true, rfl, rfl, by go_num, by omega, by omega, HD2, HO2, HB2⟩
            case measure => simp [intOf]; omega
    · obtain rfl : k = N := by omega
      have htk : ps.take k = ps := List.take_of_length_le (by rw [HN.out]; exact Nat.le_refl _)
      rw [htk] at HD HO
      have hmem : ∀ (W : World), Below w.heap.size w W → ∀ q, q ∈ ps ∨ q = X → Buf W base 5 q.2 q.1.2 := fun W hB q hq => by
        rcases hq with hq | rfl
        · exact (H.out.2 q hq).below hB
        · exact HXB.out.below hB
      have hms : ∀ q ∈ (withS s X ps).1, q ∈ ps ∨ q = X := fun q hq => by
        have := withS_mem s X ps q ps.length (Nat.le_refl _)
        rw [List.take_length] at this
        exact this hq
      cases dn with
      | true =>
        have e1 : withF s X ps = (withS s X ps).1 := by rw [withF, HD.out]; rfl
        have HF : Hid (FilesO w base (withF s X ps) (.returned (.slice A2 n c2)) wr) := by
          obtain ⟨hn, hrow⟩ := HO.out
          rw [← e1] at hn hrow hms
          subst hn
          exact Lib.hid ⟨A2, c2, rfl, ⟨⟨row_lower hrow hbase, fun p hp => hmem wr HB.out p (hms p hp)⟩, row_new hrow⟩, HB.out⟩
        clear HO HB HD e1 hmem hms htk
        go_wp2_with fail
        go_ret
        exact HF.out
      | false =>
        have e1 : withF s X ps = (withS s X ps).1 ++ [X] := by rw [withF, HD.out]; rfl
        obtain ⟨A3, c3, w3, R3, O3, B3⟩ := rowO_append HO.out HB.out.size (by omega) 29 X HX1.out HX2.out
        have HF : Hid (FilesO w base (withF s X ps) (.returned (.slice A3 (n + 1) c3)) w3) := by
          have hB3 := HB.out.trans B3
          obtain ⟨hn, hrow⟩ := O3
          rw [← e1] at hn hrow
          rw [← hn] at hrow ⊢
          exact Lib.hid ⟨A3, c3, rfl, ⟨⟨row_lower hrow hbase, fun p hp => hmem w3 hB3 p (by
            rw [e1, List.mem_append, List.mem_singleton] at hp
            exact hp.elim (hms p) .inr)⟩, row_new hrow⟩, hB3⟩
        have R3' := Lib.hid R3
        clear HO HB HD e1 hmem hms htk R3 O3 B3
        go_wp2_with (at_builtin; refine wpList_append_ran rfl _ _ _ rfl rfl rfl R3'.out ?_)
        go_ret
        exact HF.out

end Go.Proofs.Ytmegiilkcidanaa.Disk

/-
  The contract of the document's disk's Used; rows of its changes; the whole of it.
-/
namespace Go.Proofs.Ytmegiilkcidanaa.Disk
open Go Go.RowKit Go.Sort Go.Lib Go.Proofs.Ytmegiilkcidanaa.Law

def usedF (ps : List RF) : Nat := (ps.map fun p => p.1.2.length).sum
theorem usedF_succ (ps : List RF) (k : Nat) (hk : k < ps.length) : usedF (ps.take (k + 1)) = usedF (ps.take k) + ps[k].1.2.length := by
  rw [usedF, List.take_succ_eq_append_getElem hk, List.map_append, List.sum_append]; simp [usedF]
theorem usedF_le (ps : List RF) : ∀ k, usedF (ps.take k) ≤ usedF ps := fun k => by
  have : usedF ps = usedF (ps.take k) + usedF (ps.drop k) := by
    rw [usedF, usedF, usedF, ← List.sum_append, ← List.map_append, List.take_append_drop]
  omega

set_option maxRecDepth 100000 in
set_option maxHeartbeats 2000000 in
theorem refUsed_calls (q : Nat) (room : Int) (fails : Bool) (v sv cv : Value) (ps : List RF) (hps : ps.length ≤ 1000000) (hu : usedF ps ≤ 1152921504606846976) (base : Nat) (w : World) (hq : RD w q room fails v sv cv) (h : FilesAt w base v ps) :
    Calls Try.prog 36 #[.pointer (some ⟨q, 0, none⟩)] w fun e W => e = .returned (.int .i64 (usedF ps : Nat)) ∧ W = w := by
  obtain ⟨A, cap, rfl⟩ := h.form
  obtain ⟨⟨_, _, cq, _, _⟩, _⟩ := hq.cells
  obtain ⟨N, hN⟩ : ∃ N, ps.length = N := ⟨_, rfl⟩
  obtain ⟨U, hU⟩ : ∃ U, usedF ps = U := ⟨_, rfl⟩
  have HN := Lib.hid hN
  have HU := Lib.hid hU
  have H := Lib.hid h
  rw [hN] at hps H cq
  rw [hU] at hu ⊢
  clear h hN hU hq
  go_enter Try.func36, Try.ntmps36
  go_wp2_with fail
  go_loopw [3, 4] (fun u i wr => ∃ (k n : Nat), u = .int .i64 n ∧ i = .int .i64 k ∧ k ≤ N ∧ Hid (usedF (ps.take k) = n) ∧ wr = w) (fun u i _ => N - (intOf i).toNat)
  case atStart => exact ⟨0, 0, rfl, rfl, Nat.zero_le _, Lib.hid rfl, rfl⟩
  case round =>
    obtain ⟨k, n, rfl, rfl, hk, HS, rfl⟩ := hrel
    by_cases hlt : k < N
    · have hkp : k < ps.length := by rw [HN.out]; exact hlt
      obtain ⟨hnc, g, rfl, hg, c0, c1⟩ := H.out.cell (i := k) hkp
      obtain ⟨Ax, cx, hvx, _⟩ := (H.out.2 ps[k] (List.getElem_mem _)).form
      obtain ⟨M, hM⟩ : ∃ M, ps[k].1.2.length = M := ⟨_, rfl⟩
      rw [hM] at hvx
      rw [hvx] at c1
      have hltI : (k : Int) < (N : Int) := by omega
      have hncI : (N : Int) ≤ (cap : Int) := by omega
      have e1 := usedF_succ ps k hkp
      rw [hM, HS.out] at e1
      have hle : n + M ≤ U := by rw [← e1, ← HU.out]; exact usedF_le _ _
      obtain ⟨T, hT⟩ : ∃ T, n + M = T := ⟨_, rfl⟩
      have hTI : (n : Int) + (M : Int) = (T : Int) := by omega
      rw [hT] at e1
      have E1 := Lib.hid e1
      have hTu : (T : Int) ≤ 1152921504606846976 := by omega
      clear e1 hM hvx c0 hT hle HS
      go_wp2_with fail
      go_roundw
      case rel => exact ⟨k + 1, T, by first | rfl | go_num, by go_num, by omega, E1, trivial⟩
      case measure => simp [intOf]; omega
    · obtain rfl : k = N := by omega
      have hn : n = U := by
        rw [← HS.out, List.take_of_length_le (by rw [HN.out]; exact Nat.le_refl _), HU.out]
      subst hn
      clear HS
      go_wp2_with fail
      go_ret
      exact ⟨rfl, rfl⟩

end Go.Proofs.Ytmegiilkcidanaa.Disk

/-
  Rows of the document's disk's changes; the whole of it; what its calls leave as it was.
-/
namespace Go.Proofs.Ytmegiilkcidanaa.Disk
open Go Go.RowKit Go.Sort Go.Lib Go.Proofs.Ytmegiilkcidanaa.Law

/-- A change of the document's disk. -/
structure RChg where
  kind : Nat
  name : ByteArray
  pos : Nat
  data : List Nat
abbrev RC := RChg × Value
def flatRC : List RC → List Value
  | [] => []
  | p :: r => .int .i64 (p.1.kind : Nat) :: .string p.1.name :: .int .i64 (p.1.pos : Nat) :: p.2 :: flatRC r
theorem flatRC_length : ∀ l : List RC, (flatRC l).length = l.length * 4
  | [] => rfl
  | p :: r => by simp only [flatRC, List.length_cons, flatRC_length r]; omega
theorem flatRC_append : ∀ a b : List RC, flatRC (a ++ b) = flatRC a ++ flatRC b
  | [], b => by simp [flatRC]
  | x :: a, b => by simp only [List.cons_append, flatRC, flatRC_append a b]
theorem flatRC_one : ∀ l : List RC, (∀ p ∈ l, p.2.oneCell' = true) → ∀ u ∈ flatRC l, u.oneCell' = true
  | [], _, u, h => by simp [flatRC] at h
  | p :: r, hl, u, h => by
    simp only [flatRC, List.mem_cons] at h
    rcases h with rfl | rfl | rfl | rfl | h
    · rfl
    · rfl
    · rfl
    · exact hl p (by simp)
    · exact flatRC_one r (fun q hq => hl q (by simp [hq])) u h
theorem info_rc : (Try.prog.info? 97).map (fun i => (i.zero, i.size, i.bytes)) = some (some (.agg #[.int .i64 0, .string ⟨#[]⟩, .int .i64 0, .slice none 0 0]), 4, 56) := by kernel_rfl

/-- A row of changes. -/
def ChsAt (W : World) (base : Nat) (v : Value) (l : List RC) : Prop := W.ownsRow base 97 4 v l.length (flatRC l) ∧ ∀ p ∈ l, Buf W base 5 p.2 p.1.data
/-- The types of the blocks that the document's disk's calls write. -/
def isRefD (t : TypeId) : Bool := t == 32 || t == 97
def isRC (t : TypeId) : Bool := t == 97
theorem isRC_more (t : TypeId) (h : isRefD t = false) : isRC t = false := by
  unfold isRefD at h
  simp only [Bool.or_eq_false_iff] at h
  exact h.2

theorem buf_frm {S : TypeId → Bool} {B base : Nat} {W W' : World} {v : Value} {xs : List Nat} (h : Buf W base 5 v xs) (hF : Frm S B W W') (hS : S 5 = false) : Buf W' base 5 v xs :=
  h.keep fun g hg => by
    rcases h.2 with ⟨rfl, _⟩ | ⟨g', cap, cur, rfl, _, h2, _⟩
    · cases hg
    · simp only [Value.ownBlock, Option.some.injEq] at hg
      subst hg
      exact (hF.2 g' _ _ _ h2 hS).trans h2.symm
theorem FilesAt.frm {S : TypeId → Bool} {B base : Nat} {W W' : World} {v : Value} {ps : List RF} (h : FilesAt W base v ps) (hF : Frm S B W W') (h1 : S 71 = false) (h2 : S 5 = false) : FilesAt W' base v ps :=
  ⟨row_frm h.1 hF h1, fun p hp => buf_frm (h.2 p hp) hF h2⟩
theorem ChsAt.frm {S : TypeId → Bool} {B base : Nat} {W W' : World} {v : Value} {l : List RC} (h : ChsAt W base v l) (hF : Frm S B W W') (h1 : S 97 = false) (h2 : S 5 = false) : ChsAt W' base v l :=
  ⟨row_frm h.1 hF h1, fun p hp => buf_frm (h.2 p hp) hF h2⟩
theorem ChsAt.nil (W : World) (base : Nat) : ChsAt W base (.slice none 0 0) [] := ⟨⟨rfl, .inl ⟨rfl, rfl⟩⟩, by simp⟩
theorem ChsAt.form {W : World} {base : Nat} {v : Value} {l : List RC} (h : ChsAt W base v l) : ∃ A c, v = .slice A l.length c := row_form h.1
theorem ChsAt.below {W W' : World} {base : Nat} {v : Value} {l : List RC} (h : ChsAt W base v l) (hB : Below W.heap.size W W') : ChsAt W' base v l :=
  h.frm (S := fun _ => false) (Frm.of_below hB (Nat.le_refl _)) rfl rfl

/-- A change is put behind a row's. -/
theorem ChsAt.append {W : World} {base : Nat} {v : Value} {l : List RC} (h : ChsAt W base v l) (hbase : base ≤ W.heap.size) (ty : TypeId) (b : Nat) (x : RC)
    (hm : W.heap[b]? = some (.cells #[.int .i64 (x.1.kind : Nat), .string x.1.name, .int .i64 (x.1.pos : Nat), x.2] 97 (0, 0))) (hO : Buf W base 5 x.2 x.1.data) (hroom : l.length ≤ 1000000000) :
    ∃ A' c' W', (Builtin.append_ #[30, 30] ty #[v, .slice (some ⟨b, 0, none⟩) 1 1]).run Try.prog W = .ok (.slice A' (l.length + 1) c') W' ∧ ChsAt W' base (.slice A' (l.length + 1) c') (l ++ [x]) ∧ Frm isRC base W W' ∧
      W.grownBy W' v.ownBlock ∧ ((Value.slice A' (l.length + 1) c').ownBlock = v.ownBlock ∨ (Value.slice A' (l.length + 1) c').ownBlock = some W.heap.size) := by
  obtain ⟨i0, hi, hz0, hz1, hz2⟩ := info_parts info_rc
  have hones : ∀ p ∈ l, p.2.oneCell' = true := fun p hp => by
    obtain ⟨A, c, hv, _⟩ := (h.2 p hp).form
    rw [hv]; rfl
  have hone : x.2.oneCell' = true := by
    obtain ⟨A, c, hv, _⟩ := hO.form
    rw [hv]; rfl
  obtain ⟨v', W', hrun, h3, h4, _, h5⟩ := run_append_own_at (P := Try.prog) W base 30 ty 97 i0 _ 4 56 Try.underlying30 hi hz0 hz1 hz2 rfl (by decide) v l.length (flatRC l) h.1 ⟨b, 0, none⟩ 1 1 (flatRC [x]) rfl
    (fun j w hw => by
      rw [Addr.add_lit]
      match j, hw with
      | 0, hw => simp [flatRC] at hw; subst hw; simp [World.cell?, hm]
      | 1, hw => simp [flatRC] at hw; subst hw; simp [World.cell?, hm]
      | 2, hw => simp [flatRC] at hw; subst hw; simp [World.cell?, hm]
      | 3, hw => simp [flatRC] at hw; subst hw; simp [World.cell?, hm]
      | j + 4, hw => simp [flatRC] at hw) (flatRC_one _ (by simpa using hone)) (by simp only [maxLen]; omega) (by omega) hbase
  obtain ⟨A', c', rfl⟩ := row_form h3
  have hF : Frm isRC base W W' := (Frm.refl isRC base W).grown_row h4 h.1 (by decide) (Nat.le_refl _) hbase
  refine ⟨A', c', W', hrun, ⟨by rw [List.length_append, flatRC_append]; exact h3, fun p hp => ?_⟩, hF, h4, h5⟩
  rcases List.mem_append.1 hp with hp | hp
  · exact buf_frm (h.2 p hp) hF (by decide)
  · simp only [List.mem_singleton] at hp
    subst hp
    exact buf_frm hO hF (by decide)

/-- The document's disk. -/
def RefD (W : World) (base q : Nat) (room : Int) (fails : Bool) (now safe : List RF) (chs : List RC) : Prop :=
  base ≤ q ∧ ∃ nv sv cv, RD W q room fails nv sv cv ∧ FilesAt W base nv now ∧ FilesAt W base sv safe ∧ ChsAt W base cv chs
theorem RefD.below {W W' : World} {base q : Nat} {room : Int} {fails : Bool} {now safe : List RF} {chs : List RC} (h : RefD W base q room fails now safe chs) (hB : Below W.heap.size W W') : RefD W' base q room fails now safe chs := by
  obtain ⟨hb, nv, sv, cv, h1, h2, h3, h4⟩ := h
  exact ⟨hb, nv, sv, cv, h1.below hB, h2.below hB, h3.below hB, h4.below hB⟩
/-- It is kept by whatever writes blocks of other types. -/
theorem RefD.frm {S : TypeId → Bool} {B : Nat} {W W' : World} {base q : Nat} {room : Int} {fails : Bool} {now safe : List RF} {chs : List RC} (h : RefD W base q room fails now safe chs) (hF : Frm S B W W') (h1 : S 32 = false) (h2 : S 71 = false) (h3 : S 97 = false) (h4 : S 5 = false) : RefD W' base q room fails now safe chs := by
  obtain ⟨hb, nv, sv, cv, e1, e2, e3, e4⟩ := h
  exact ⟨hb, nv, sv, cv, hF.2 q _ _ _ e1 h1, e2.frm hF h2 h4, e3.frm hF h2 h4, e4.frm hF h3 h4⟩

theorem rd_frm {S : TypeId → Bool} {B : Nat} {W W' : World} {q : Nat} {room : Int} {fails : Bool} {nv sv cv : Value} (h : RD W q room fails nv sv cv) (hF : Frm S B W W') (h1 : S 32 = false) : RD W' q room fails nv sv cv := hF.2 q _ _ _ h h1
theorem rd_set (W : World) {base q : Nat} {room : Int} {fails : Bool} {nv sv cv : Value} (h : RD W q room fails nv sv cv) (hb : base ≤ q) (hs : base ≤ W.heap.size) (i : Nat) (v : Value) : Frm isRefD base W (W.setCell ⟨q, i, none⟩ v) := (Frm.refl isRefD base W).set h (by decide) hb hs v
theorem rd_set2 {W : World} {q : Nat} {room : Int} {fails : Bool} {nv sv cv : Value} (h : RD W q room fails nv sv cv) (v : Value) : RD (W.setCell ⟨q, 2, none⟩ v) q room fails v sv cv := by
  have := heap_set h 2 v
  exact this.trans (by simp)
theorem rd_set3 {W : World} {q : Nat} {room : Int} {fails : Bool} {nv sv cv : Value} (h : RD W q room fails nv sv cv) (v : Value) : RD (W.setCell ⟨q, 3, none⟩ v) q room fails nv v cv := by
  have := heap_set h 3 v
  exact this.trans (by simp)
theorem rd_set4 {W : World} {q : Nat} {room : Int} {fails : Bool} {nv sv cv : Value} (h : RD W q room fails nv sv cv) (v : Value) : RD (W.setCell ⟨q, 4, none⟩ v) q room fails nv sv v := by
  have := heap_set h 4 v
  exact this.trans (by simp)
theorem rd_set1 {W : World} {q : Nat} {room : Int} {fails : Bool} {nv sv cv : Value} (h : RD W q room fails nv sv cv) (b : Bool) : RD (W.setCell ⟨q, 1, none⟩ (.bool b)) q room b nv sv cv := by
  have := heap_set h 1 (.bool b)
  exact this.trans (by simp)
theorem rd_set0 {W : World} {q : Nat} {room : Int} {fails : Bool} {nv sv cv : Value} (h : RD W q room fails nv sv cv) (z : Int) : RD (W.setCell ⟨q, 0, none⟩ (.int .i64 z)) q z fails nv sv cv := by
  have := heap_set h 0 (.int .i64 z)
  exact this.trans (by simp)
theorem files_set {W : World} {base q : Nat} {room : Int} {fails : Bool} {nv sv cv v u : Value} {ps : List RF} (h : FilesAt W base v ps) (hq : RD W q room fails nv sv cv) (i : Nat) : FilesAt (W.setCell ⟨q, i, none⟩ u) base v ps :=
  h.frm (S := fun t => t == 32) ((Frm.refl _ 0 W).set hq (by decide) (Nat.zero_le _) (Nat.zero_le _) u) (by decide) (by decide)
theorem chs_set {W : World} {base q : Nat} {room : Int} {fails : Bool} {nv sv cv v u : Value} {l : List RC} (h : ChsAt W base v l) (hq : RD W q room fails nv sv cv) (i : Nat) : ChsAt (W.setCell ⟨q, i, none⟩ u) base v l :=
  h.frm (S := fun t => t == 32) ((Frm.refl _ 0 W).set hq (by decide) (Nat.zero_le _) (Nat.zero_le _) u) (by decide) (by decide)

/-- What a call of the document's disk in block q has done: it wrote that block, and the row of its changes; its rows are such as they were, or new. -/
structure RefK (base q : Nat) (w W : World) : Prop where
  le : base ≤ q
  lt : q < w.heap.size
  low : Below base w W
  same : ∀ k, k < w.heap.size → k ≠ q → (∀ v, w.cell? ⟨q, 4, none⟩ = some v → v.ownBlock ≠ some k) → W.heap[k]? = w.heap[k]?
  own : ∀ i, 2 ≤ i → i ≤ 4 → ∀ v g, W.cell? ⟨q, i, none⟩ = some v → v.ownBlock = some g → (∃ j v0, 2 ≤ j ∧ j ≤ 4 ∧ (i = 4 ↔ j = 4) ∧ w.cell? ⟨q, j, none⟩ = some v0 ∧ v0.ownBlock = some g) ∨ w.heap.size ≤ g
theorem RefK.refl {base q : Nat} {w : World} (hb : base ≤ q) (hq : q < w.heap.size) : RefK base q w w :=
  ⟨hb, hq, Below.refl _ _, fun _ _ _ _ => rfl, fun i h2 h4 v _ hv hg => .inl ⟨i, v, h2, h4, Iff.rfl, hv, hg⟩⟩
theorem RefK.then_below {base q : Nat} {w W W' : World} (h : RefK base q w W) (hB : Below W.heap.size W W') : RefK base q w W' := by
  have hs := h.low.size
  have hl := h.lt
  refine ⟨h.le, h.lt, h.low.trans (hB.mono (by have := h.le; omega)), fun k hk hkq hc => (hB.block k (by omega)).trans (h.same k hk hkq hc), fun i h2 h4 v g hv hg => h.own i h2 h4 v g ?_ hg⟩
  rw [← hv]
  exact (hB.cell (p := ⟨q, i, none⟩) (by show q < W.heap.size; omega)).symm
theorem RefK.of_below {base q : Nat} {w W : World} (hb : base ≤ q) (hq : q < w.heap.size) (hB : Below w.heap.size w W) : RefK base q w W := (RefK.refl hb hq).then_below hB
theorem RefK.trans {base q : Nat} {a b c : World} (h : RefK base q a b) (k : RefK base q b c) : RefK base q a c := by
  have hs := h.low.size
  refine ⟨h.le, h.lt, h.low.trans k.low, fun j hj hjq hc => (k.same j (by omega) hjq fun v hv hg => ?_).trans (h.same j hj hjq hc), fun i h2 h4 v g hv hg => ?_⟩
  · rcases h.own 4 (by omega) (by omega) v j hv hg with ⟨j', v0, _, _, hiff, h5, h6⟩ | h5
    · obtain rfl := hiff.1 rfl
      exact hc v0 h5 h6
    · omega
  · rcases k.own i h2 h4 v g hv hg with ⟨j, v0, h5, h6, h7, h8, h9⟩ | h5
    · rcases h.own j h5 h6 v0 g h8 h9 with ⟨j', v1, e5, e6, e7, e8, e9⟩ | e5
      · exact .inl ⟨j', v1, e5, e6, h7.trans e7, e8, e9⟩
      · exact .inr e5
    · exact .inr (by omega)
/-- A field of the block is set. -/
theorem RefK.put {base q : Nat} {w W : World} {room : Int} {fails : Bool} {nv sv cv : Value} (h : RefK base q w W) (hq : RD W q room fails nv sv cv) (i : Nat) (v : Value)
    (hv : ∀ g, v.ownBlock = some g → (∃ j v0, 2 ≤ j ∧ j ≤ 4 ∧ (i = 4 ↔ j = 4) ∧ w.cell? ⟨q, j, none⟩ = some v0 ∧ v0.ownBlock = some g) ∨ w.heap.size ≤ g) : RefK base q w (W.setCell ⟨q, i, none⟩ v) := by
  have hs := h.low.size
  have hl := h.lt
  refine ⟨h.le, h.lt, h.low.trans (rd_set W hq h.le (by have := h.le; omega) i v).low, fun k hk hkq hc => (Below.heap_setCell _ _ _ k (by exact hkq)).trans (h.same k hk hkq hc), fun j h2 h4 u g hu hg => ?_⟩
  have hset := heap_set hq i v
  by_cases hij : i = j
  · subst hij
    have : u = v := by
      simp only [World.cell?, hset] at hu
      rw [Array.getElem?_setIfInBounds_self_of_lt (by simp; omega)] at hu
      exact (Option.some.inj hu).symm
    subst this
    exact hv g hg
  · refine h.own j h2 h4 u g ?_ hg
    simp only [World.cell?, hset] at hu
    rw [Array.getElem?_setIfInBounds_ne hij] at hu
    have hq' : W.heap[q]? = _ := hq
    simp only [World.cell?, hq']
    exact hu
/-- The row of changes grows where it lies. -/
theorem RefK.grown {base q : Nat} {w W W' : World} {cv : Value} (h : RefK base q w W) (hc : W.cell? ⟨q, 4, none⟩ = some cv) (hg : W.grownBy W' cv.ownBlock) (hne : cv.ownBlock ≠ some q) (hB : Below base W W') : RefK base q w W' := by
  have hs := h.low.size
  have hl := h.lt
  have hqs : W'.heap[q]? = W.heap[q]? := hg.block q (by omega) (fun e => hne e.symm)
  refine ⟨h.le, h.lt, h.low.trans hB, fun k hk hkq hn => (hg.block k (by omega) fun e => ?_).trans (h.same k hk hkq hn), fun i h2 h4 v g hv hgg => h.own i h2 h4 v g ?_ hgg⟩
  · rcases h.own 4 (by omega) (by omega) cv k hc e.symm with ⟨j, v0, _, _, hiff, h5, h6⟩ | h5
    · obtain rfl := hiff.1 rfl
      exact hn v0 h5 h6
    · omega
  · rw [← hv]
    simp only [World.cell?, hqs]

/-- A change is put behind the disk's, and its field set. -/
theorem ref_push {w0 W : World} {base q : Nat} {room : Int} {fails : Bool} {nv sv cv : Value} {now safe : List RF} {chs : List RC} (hb : base ≤ q) (h : RD W q room fails nv sv cv) (hN : FilesAt W base nv now) (hS : FilesAt W base sv safe) (hC : ChsAt W base cv chs) (hbase : base ≤ W.heap.size) (ty : TypeId) (b : Nat) (x : RC)
    (hm : W.heap[b]? = some (.cells #[.int .i64 (x.1.kind : Nat), .string x.1.name, .int .i64 (x.1.pos : Nat), x.2] 97 (0, 0))) (hO : Buf W base 5 x.2 x.1.data) (hroom : chs.length ≤ 1000000000) (hK : RefK base q w0 W) :
    ∃ A' c' W', (Builtin.append_ #[30, 30] ty #[cv, .slice (some ⟨b, 0, none⟩) 1 1]).run Try.prog W = .ok (.slice A' (chs.length + 1) c') W' ∧ RD W' q room fails nv sv cv ∧
      RefD (W'.setCell ⟨q, 4, none⟩ (.slice A' (chs.length + 1) c')) base q room fails now safe (chs ++ [x]) ∧ RefK base q w0 (W'.setCell ⟨q, 4, none⟩ (.slice A' (chs.length + 1) c')) := by
  obtain ⟨A', c', W', hrun, hC', hF, hgr, hown⟩ := hC.append hbase ty b x hm hO hroom
  have hq : RD W' q room fails nv sv cv := rd_frm h hF (by decide)
  have hne : cv.ownBlock ≠ some q := fun e => by
    rcases hC.1.2 with ⟨rfl, _⟩ | ⟨g, cap, cur, rfl, _, hg, _⟩
    · cases e
    · simp only [Value.ownBlock, Option.some.injEq] at e
      subst e
      have h1 : W.heap[g]? = _ := h
      rw [h1] at hg
      simp only [Option.some.injEq, Obj.cells.injEq] at hg
      exact absurd hg.2.1 (by decide)
  have hc4 := h.cells.1.2.2.2.2
  have hK2 : RefK base q w0 W' := hK.grown hc4 hgr hne hF.low
  have hset : RefK base q w0 (W'.setCell ⟨q, 4, none⟩ (.slice A' (chs.length + 1) c')) := hK2.put hq 4 _ fun g hg => by
    rcases hown with e | e
    · rw [e] at hg
      rcases hK.own 4 (by omega) (by omega) cv g hc4 hg with ⟨j, v0, h2, h4, hiff, h5, h6⟩ | h5
      · exact .inl ⟨j, v0, h2, h4, hiff, h5, h6⟩
      · exact .inr h5
    · rw [e] at hg
      have := Option.some.inj hg
      have := hK.low.size
      exact .inr (by omega)
  exact ⟨A', c', W', hrun, hq, ⟨hb, nv, sv, _, rd_set4 hq _, files_set (hN.frm hF (by decide) (by decide)) hq 4, files_set (hS.frm hF (by decide) (by decide)) hq 4, by
    have := chs_set (u := .slice A' (chs.length + 1) c') hC' hq 4
    exact this⟩, hset⟩

end Go.Proofs.Ytmegiilkcidanaa.Disk
