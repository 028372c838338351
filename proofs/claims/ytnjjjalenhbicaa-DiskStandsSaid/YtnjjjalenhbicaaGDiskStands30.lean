/-
  Put together out of texts of one chain: what they hold stands ahead of each.
-/
import Derived.Test.YtnjjjalenhbicaaGDiskStands29
/-
  The contract of the document's disk's Sync.
-/
namespace Go.Proofs.Ytnjjjalenhbicaa.Disk
open Go Go.RowKit Go.Sort Go.Lib Go.Proofs.Ytnjjjalenhbicaa.Law

theorem flatRC_at : ∀ (l : List RC) (i : Nat) (h : i < l.length), (flatRC l)[i * 4]? = some (.int .i64 (l[i].1.kind : Nat)) ∧ (flatRC l)[i * 4 + 1]? = some (.string l[i].1.name) ∧ (flatRC l)[i * 4 + 2]? = some (.int .i64 (l[i].1.pos : Nat)) ∧ (flatRC l)[i * 4 + 3]? = some l[i].2
  | [], i, h => by simp at h
  | p :: r, 0, _ => ⟨rfl, rfl, rfl, rfl⟩
  | p :: r, i + 1, h => by
    have := flatRC_at r i (by simpa using h)
    have e : (i + 1) * 4 = i * 4 + 4 := by omega
    rw [e]
    exact this
theorem ChsAt.cell {W : World} {base n cap : Nat} {A : Option Addr} {l : List RC} (h : ChsAt W base (.slice A n cap) l) {i : Nat} (hi : i < l.length) : n ≤ cap ∧ ∃ g, A = some ⟨g, 0, none⟩ ∧ g < W.heap.size ∧ W.cell? ⟨g, i * 4, none⟩ = some (.int .i64 (l[i].1.kind : Nat)) ∧ W.cell? ⟨g, i * 4 + 1, none⟩ = some (.string l[i].1.name) ∧ W.cell? ⟨g, i * 4 + 2, none⟩ = some (.int .i64 (l[i].1.pos : Nat)) ∧ W.cell? ⟨g, i * 4 + 3, none⟩ = some l[i].2 := by
  have hcell := fun (g : Nat) (hg : (Value.slice A n cap).ownBlock = some g) => h.1.cells hg
  rcases h.1.2 with ⟨_, h0⟩ | ⟨g, cap', cur, hv, _, hg, hn, _⟩
  · omega
  · simp only [Value.slice.injEq] at hv
    obtain ⟨rfl, rfl, rfl⟩ := hv
    obtain ⟨f0, f1, f2, f3⟩ := flatRC_at l i hi
    refine ⟨hn, g, rfl, (Array.getElem?_eq_some_iff.1 hg).1, ?_, ?_, ?_, ?_⟩
    · have := hcell g rfl _ _ f0; rwa [Addr.add_lit, Nat.zero_add] at this
    · have := hcell g rfl _ _ f1; rwa [Addr.add_lit, Nat.zero_add] at this
    · have := hcell g rfl _ _ f2; rwa [Addr.add_lit, Nat.zero_add] at this
    · have := hcell g rfl _ _ f3; rwa [Addr.add_lit, Nat.zero_add] at this

/-- A row of changes that is being built. -/
def RowC (b2 : Nat) (W : World) (A : Option Addr) (n c : Nat) (l : List RC) : Prop := l.length = n ∧ W.ownsRow b2 97 4 (.slice A n c) n (flatRC l) ∧ ∀ p ∈ l, p.2.oneCell' = true
theorem rowC_append {W : World} {b2 n c : Nat} {A : Option Addr} {l : List RC} (h : RowC b2 W A n c l) (hb : b2 ≤ W.heap.size) (hn : n ≤ 1000000000) (ty : TypeId) (x : RC) {kd ps : Nat} {name : ByteArray} {dA : Option Addr} {dl dc : Nat} (hk : x.1.kind = kd) (hx : x.1.name = name) (hp : x.1.pos = ps) (hv : x.2 = .slice dA dl dc) :
    ∃ A' c' W', (Builtin.append_ #[30, 30] ty #[.slice A n c, .slice (some ⟨W.heap.size, 0, none⟩) 1 1]).run Try.prog (W.alloc (.cells #[.int .i64 (kd : Nat), .string name, .int .i64 (ps : Nat), .slice dA dl dc] 97)) = .ok (.slice A' (n + 1) c') W' ∧ RowC b2 W' A' (n + 1) c' (l ++ [x]) ∧ Below b2 W W' := by
  obtain ⟨hl, hrow, hones⟩ := h
  subst hl
  obtain ⟨i0, hi, hz0, hz1, hz2⟩ := info_parts info_rc
  have hone : x.2.oneCell' = true := by rw [hv]; rfl
  have hBa := (Below.refl b2 W).alloc hb (.cells #[.int .i64 (kd : Nat), .string name, .int .i64 (ps : Nat), .slice dA dl dc] 97)
  have hrow2 := hrow.alloc (.cells #[.int .i64 (kd : Nat), .string name, .int .i64 (ps : Nat), .slice dA dl dc] 97)
  have hm : (W.alloc (.cells #[.int .i64 (kd : Nat), .string name, .int .i64 (ps : Nat), .slice dA dl dc] 97)).heap[W.heap.size]? = some (.cells #[.int .i64 (x.1.kind : Nat), .string x.1.name, .int .i64 (x.1.pos : Nat), x.2] 97 (0, 0)) := by
    rw [hk, hx, hp, hv]; simp only [World.alloc, Array.getElem?_push_size]
  obtain ⟨v', W', hrun, h3, h4, _, _⟩ := run_append_own_at (P := Try.prog) (W.alloc (.cells #[.int .i64 (kd : Nat), .string name, .int .i64 (ps : Nat), .slice dA dl dc] 97)) b2 30 ty 97 i0 _ 4 56 Try.underlying30 hi hz0 hz1 hz2 rfl (by decide) (.slice A l.length c) l.length (flatRC l) (hrow.alloc _) ⟨W.heap.size, 0, none⟩ 1 1 (flatRC [x]) rfl
    (fun j w hw => by
      rw [Addr.add_lit]
      match j, hw with
      | 0, hw => simp [flatRC] at hw; subst hw; simp only [World.cell?, hm]; rfl
      | 1, hw => simp [flatRC] at hw; subst hw; simp only [World.cell?, hm]; rfl
      | 2, hw => simp [flatRC] at hw; subst hw; simp only [World.cell?, hm]; rfl
      | 3, hw => simp [flatRC] at hw; subst hw; simp only [World.cell?, hm]; rfl
      | j + 4, hw => simp [flatRC] at hw) (flatRC_one _ (by simpa using hone)) (by simp only [maxLen]; omega) (by omega) (Nat.le_trans hb hBa.size)
  obtain ⟨A', c', rfl⟩ := row_form h3
  refine ⟨A', c', W', hrun, ⟨by simp, by rw [flatRC_append]; exact h3, fun p hp => ?_⟩, hBa.grown h4 (Nat.le_trans hb hBa.size) (fun k hk => (hrow2.lt k hk).1)⟩
  rcases List.mem_append.1 hp with hp | hp
  · exact hones p hp
  · simp only [List.mem_singleton] at hp
    subst hp
    exact hone

def neC (s : ByteArray) (p : RC) : Bool := decide (p.1.name ≠ s)
/-- Nothing is there to sync. -/
def quietS (now safe : List RF) (chs : List RC) (s : ByteArray) : Bool := !(getF now s).isSome && !(getF safe s).isSome && decide ((chs.filter (neC s)).length = chs.length)
def syncSafe (now safe : List RF) (s : ByteArray) : List RF := match getF now s with
  | some p => withF s ((s, p.1.2), p.2) safe
  | none => safe.filter (neN s)

def syncN (now safe : List RF) (chs : List RC) (s : ByteArray) : Nat := if quietS now safe chs s then 7 else 0
def syncS (now safe : List RF) (chs : List RC) (s : ByteArray) : List RF := if quietS now safe chs s then safe else syncSafe now safe s
def syncC (now safe : List RF) (chs : List RC) (s : ByteArray) : List RC := if quietS now safe chs s then chs else chs.filter (neC s)

set_option maxRecDepth 100000 in
set_option maxHeartbeats 4000000 in
theorem refSync_ok (w : World) (base q : Nat) (hbase : base ≤ w.heap.size) (room : Int) (fails : Bool) (now safe : List RF) (hnow : now.length ≤ 1000000) (hsafe : safe.length ≤ 1000000) (chs : List RC) (hchs : chs.length ≤ 1000000) (h : RefD w base q room fails now safe chs) (s : ByteArray) (hs63 : s.size ≤ 9223372036854775807) (hn : refN fails s 0 = 0)
    (hname : ∀ p, getF now s = some p → p ∈ now ∧ p.1.1 = s) :
    Calls Try.prog 33 #[.pointer (some ⟨q, 0, none⟩), .string s] w (RefO w base q (syncN now safe chs s) room fails now (syncS now safe chs s) (syncC now safe chs s)) := by
  obtain ⟨hb, nv, sv, cv, h1, h2, h3, h4⟩ := id h
  have CR := Lib.hid (refReady_calls q room fails nv sv cv s hs63 0 w h1)
  rw [hn] at CR
  obtain ⟨gv, hgv⟩ : ∃ gv, getV now s = gv := ⟨_, rfl⟩
  obtain ⟨gv2, hgv2⟩ : ∃ gv, getV safe s = gv := ⟨_, rfl⟩
  obtain ⟨tn, htn⟩ : ∃ t, (getF now s).isSome = t := ⟨_, rfl⟩
  obtain ⟨ts, hts⟩ : ∃ t, (getF safe s).isSome = t := ⟨_, rfl⟩
  have CG := refGet_calls nv now (by omega) s base w h2
  have CG2 := refGet_calls sv safe (by omega) s base w h3
  have e0 : ∀ e W, GetR w now s e W → e = .returned (.tuple #[gv, .bool tn]) ∧ W = w := fun e W hr => by
    obtain ⟨rfl, rfl⟩ := hr
    exact ⟨by rw [hgv, htn], rfl⟩
  have e2 : ∀ e W, GetR w safe s e W → e = .returned (.tuple #[gv2, .bool ts]) ∧ W = w := fun e W hr => by
    obtain ⟨rfl, rfl⟩ := hr
    exact ⟨by rw [hgv2, hts], rfl⟩
  have CG := Lib.hid (CG.mono e0)
  have CG2 := Lib.hid (CG2.mono e2)
  have HQ : Hid (quietS now safe chs s = (!tn && !ts && decide ((chs.filter (neC s)).length = chs.length))) := Lib.hid (by rw [quietS, htn, hts])
  obtain ⟨cA, cc, rfl⟩ := h4.form
  obtain ⟨⟨_, _, c2, c3, _⟩, _⟩ := h1.cells
  obtain ⟨C, hC⟩ : ∃ C, chs.length = C := ⟨_, rfl⟩
  have HC := Lib.hid hC
  have H := Lib.hid h
  have H1 := Lib.hid h1
  have H2 := Lib.hid h2
  have H3 := Lib.hid h3
  have H4 := Lib.hid h4
  have HN := Lib.hid hname
  have HTN := Lib.hid htn
  have HGV := Lib.hid hgv
  rw [hC] at hchs H1 H4
  clear hn h1 h2 h3 h4 h e0 e2 hC hgv hgv2 htn hts hname
  go_enter Try.func33, Try.ntmps33
  go_wp2_with fail
  refine CR.out.mono ?_
  clear CR
  rintro e W ⟨rfl, hW⟩
  rw [hW]; clear hW
  go_wp2_with fail
  refine CG.out.mono ?_
  clear CG
  rintro e W ⟨rfl, hW⟩
  rw [hW]; clear hW
  go_wp2_with fail
  refine CG2.out.mono ?_
  clear CG2
  rintro e W ⟨rfl, hW⟩
  rw [hW]; clear hW
  go_wp2_with fail
  clear c2 c3
  go_loopw [10, 11] (fun o i wr => ∃ (k n : Nat) (A2 : Option Addr) (cp : Nat), o = .slice A2 n cp ∧ i = .int .i64 k ∧ k ≤ C ∧ n ≤ k ∧ Hid (RowC w.heap.size wr A2 n cp ((chs.take k).filter (neC s))) ∧ Hid (Below w.heap.size w wr)) (fun o i _ => C - (intOf i).toNat)
  case atStart => exact ⟨0, 0, none, 0, rfl, rfl, Nat.zero_le _, Nat.zero_le _, Lib.hid ⟨rfl, ⟨rfl, .inl ⟨rfl, rfl⟩⟩, by simp⟩, Lib.hid (Below.refl _ _)⟩
  case round =>
    obtain ⟨k, n, A2, cp, rfl, rfl, hk, hnk, HO, HB⟩ := hrel
    obtain ⟨⟨_, _, _, _, d4⟩, _⟩ := (H1.out.below HB.out).cells
    by_cases hlt : k < C
    · have hkp : k < chs.length := by rw [HC.out]; exact hlt
      obtain ⟨hnc, g, rfl, hg, c0, c1, c2, c3⟩ := (H4.out.below HB.out).cell (i := k) hkp
      obtain ⟨P, hP⟩ : ∃ P, chs[k] = P := ⟨_, rfl⟩
      have hPd := H4.out.2 chs[k] (List.getElem_mem _)
      rw [hP] at c0 c1 c2 c3 hPd
      obtain ⟨x, hx⟩ : ∃ x, P.1.name = x := ⟨_, rfl⟩
      obtain ⟨kd, hkd⟩ : ∃ x, P.1.kind = x := ⟨_, rfl⟩
      obtain ⟨po, hpo⟩ : ∃ x, P.1.pos = x := ⟨_, rfl⟩
      obtain ⟨Ax, cx, hvx, _⟩ := hPd.form
      obtain ⟨M, hM⟩ : ∃ M, P.1.data.length = M := ⟨_, rfl⟩
      rw [hM] at hvx
      rw [hkd] at c0
      rw [hx] at c1
      rw [hpo] at c2
      rw [hvx] at c3
      have hltI : (k : Int) < (C : Int) := by omega
      have hncI : (C : Int) ≤ (cc : Int) := by omega
      have etk : (chs.take (k + 1)).filter (neC s) = (chs.take k).filter (neC s) ++ (if neC s P then [P] else []) := by
        rw [List.take_succ_eq_append_getElem hkp, List.filter_append, hP]
        congr 1
        by_cases hh : neC s P = true <;> simp [hh]
      by_cases he : x = s
      · subst he
        have hc : (x.toList == x.toList) = true := by simp
        have hne : neC x P = false := by simp [neC, hx]
        rw [hne] at etk
        have HO2 : Hid (RowC w.heap.size wr A2 n cp ((chs.take (k + 1)).filter (neC x))) := Lib.hid (by rw [etk]; simpa using HO.out)
        clear HO etk hne hP hx hkd hpo hvx hM hPd c0 c2 c3
        go_wp2_with fail
        go_roundw
        case rel => exact ⟨k + 1, n, A2, cp, rfl, by go_num, by omega, by omega, HO2, HB⟩
        case measure => simp [intOf]; omega
      · have hc : (x.toList == s.toList) = false := by
          rw [beq_eq_false_iff_ne]
          intro h0
          apply he
          rw [Lib.toList_data, Lib.toList_data] at h0
          exact ByteArray.ext (Array.toList_inj.1 h0)
        have hne : neC s P = true := by simp [neC, hx, he]
        rw [hne] at etk
        obtain ⟨A3, c5, w3, R3, O3, B3⟩ := rowC_append HO.out HB.out.size (by omega) 30 P hkd hx hpo hvx
        have HO2 : Hid (RowC w.heap.size w3 A3 (n + 1) c5 ((chs.take (k + 1)).filter (neC s))) := Lib.hid (by rw [etk]; exact O3)
        have HB2 := Lib.hid (HB.out.trans B3)
        have R3' := Lib.hid R3
        clear HO etk hne hP hx hkd hpo hvx hM hPd R3 O3 B3 HB he
        go_wp2_with (at_builtin; refine wpList_append_ran rfl _ _ _ rfl rfl rfl R3'.out ?_)
        go_roundw
        case rel => exact ⟨k + 1, n + 1, A3, c5, rfl, by go_num, by omega, by omega, HO2, HB2⟩
        case measure => simp [intOf]; omega
    · obtain rfl : k = C := by omega
      have htk : chs.take k = chs := List.take_of_length_le (by rw [HC.out]; exact Nat.le_refl _)
      rw [htk] at HO
      have hw : base ≤ wr.heap.size := Nat.le_trans hbase HB.out.size
      have hq1 := H1.out.below HB.out
      have hrowc := HO.out
      obtain ⟨hln, hrow, _⟩ := hrowc
      have hch : ChsAt wr base (.slice A2 n cp) (chs.filter (neC s)) := ⟨by rw [hln]; exact row_lower hrow hbase, fun p hp => (H4.out.2 p (List.mem_filter.1 hp).1).below HB.out⟩
      by_cases hqt : quietS now safe chs s = true
      · have HF : Hid (RefO w base q (syncN now safe chs s) room fails now (syncS now safe chs s) (syncC now safe chs s) (.returned (.int .i64 7)) wr) := by
          rw [syncN, syncS, syncC, hqt]
          exact Lib.hid ⟨rfl, H.out.below HB.out, RefK.of_below hb H1.out.lt HB.out⟩
        rw [HQ.out] at hqt
        simp only [Bool.and_eq_true, Bool.not_eq_true', decide_eq_true_eq] at hqt
        obtain ⟨⟨rfl, rfl⟩, hq3⟩ := hqt
        rw [hln, HC.out] at hq3
        have hnC : ((n : Int) == (k : Int)) = true := by rw [beq_iff_eq]; omega
        clear HO HB hq1 hrow hch hln htk HQ hw
        go_wp2_with fail
        go_ret
        exact HF.out
      · have hqf : quietS now safe chs s = false := by simpa using hqt
        have q4 := rd_set4 hq1 (.slice A2 n cp)
        have g2 := files_set (u := .slice A2 n cp) (H2.out.below HB.out) hq1 4
        have g3 := files_set (u := .slice A2 n cp) (H3.out.below HB.out) hq1 4
        have g4 := chs_set (u := .slice A2 n cp) hch hq1 4
        have f4 := (RefK.of_below hb H1.out.lt HB.out).put hq1 4 (.slice A2 n cp) fun g hg => .inr (row_new hrow g hg)
        obtain ⟨⟨e0, e1, e2, e3, e4⟩, ef⟩ := hq1.cells
        have ef4 := ef 4
        clear ef e0 e1 e2 e3
        obtain ⟨W4, hW4⟩ : ∃ W4, wr.setCell ⟨q, 4, none⟩ (.slice A2 n cp) = W4 := ⟨_, rfl⟩
        have hs4 : base ≤ W4.heap.size := by rw [← hW4]; exact Nat.le_trans hbase f4.low.size
        rw [hW4] at q4 g2 g3 g4 f4
        have Q4 := Lib.hid q4
        have HPOST : Hid (∀ (A : Option Addr) (c m : Nat) (W5 : World) (out : List RF), out.length = m → FilesN W4.heap.size W5 base (.slice A m c) out → Below W4.heap.size W4 W5 → out = syncSafe now safe s →
            (W5.cell? ⟨q, 3, none⟩ = some sv ∧ W5.frozen? ⟨q, 3, none⟩ = false) ∧ Hid (RefO w base q (syncN now safe chs s) room fails now (syncS now safe chs s) (syncC now safe chs s) (.returned (.int .i64 0)) (W5.setCell ⟨q, 3, none⟩ (.slice A m c)))) := Lib.hid (by
          intro A c m W5 out hm hf hB5 ho
          subst ho
          rw [syncN, syncS, syncC, hqf]
          have q5 := q4.below hB5
          refine ⟨⟨q5.cells.1.2.2.2.1, q5.cells.2 3⟩, Lib.hid ⟨rfl, ⟨hb, nv, _, _, rd_set3 q5 _, files_set (g2.below hB5) q5 3, files_set hf.1 q5 3, chs_set (g4.below hB5) q5 3⟩, ?_⟩⟩
          exact (f4.then_below hB5).put q5 3 _ fun g hg => .inr (Nat.le_trans f4.low.size (hf.2 g hg)))
        have HSAFE := Lib.hid g3
        have HNOW := Lib.hid g2
        have HW4 := Lib.hid hW4
        obtain ⟨⟨_, _, _, k3, _⟩, _⟩ := q4.cells
        rw [HQ.out] at hqf
        clear HO HB hq1 hrow hch g2 g3 g4 f4 q4 htk hW4 hw
        cases tn with
        | true =>
          obtain ⟨p, hp⟩ := Option.isSome_iff_exists.1 HTN.out
          obtain ⟨hpm, hpn⟩ := HN.out p hp
          have hgv : gv = p.2 := by rw [← HGV.out, getV, hp]
          have hpb := HNOW.out.2 p hpm
          rw [← hgv] at hpb
          have CW := refWith_calls sv gv safe hsafe s p.1.2 base W4 hs4 HSAFE.out hpb
          have hout : withF s ((s, p.1.2), gv) safe = syncSafe now safe s := by rw [syncSafe, hp, hgv]
          obtain ⟨m, hm⟩ : ∃ m, (withF s ((s, p.1.2), gv) safe).length = m := ⟨_, rfl⟩
          have e5 : ∀ e W, FilesO W4 base (withF s ((s, p.1.2), gv) safe) e W → ∃ A c, e = .returned (.slice A m c) ∧ Hid (FilesN W4.heap.size W base (.slice A m c) (withF s ((s, p.1.2), gv) safe) ∧ Below W4.heap.size W4 W) := fun e W hr => by
            obtain ⟨A, c, rfl, h1, h2⟩ := hr
            rw [hm] at h1 ⊢
            exact ⟨A, c, rfl, Lib.hid ⟨h1, h2⟩⟩
          have CW2 := Lib.hid (CW.mono e5)
          have HM := Lib.hid hm
          have HOUT := Lib.hid hout
          rw [← HW4.out] at CW2 k3 HPOST
          clear CW e5 hm hout hpb hgv hpn hpm hp hqf
          go_wp2_with fail
          refine CW2.out.mono ?_
          clear CW2
          rintro e W5 ⟨A, c, rfl, HX⟩
          obtain ⟨⟨j3, jf⟩, HF⟩ := HPOST.out A c m W5 _ HM.out HX.out.1 HX.out.2 HOUT.out
          clear HPOST HX HOUT HM k3
          go_wp2_with fail
          go_ret
          exact HF.out
        | false =>
          have hnone : getF now s = none := by
            cases hg : getF now s with
            | none => rfl
            | some p => have := HTN.out; rw [hg] at this; cases this
          have CW := refWithout_calls sv safe hsafe s base W4 hs4 HSAFE.out
          have hout : safe.filter (neN s) = syncSafe now safe s := by rw [syncSafe, hnone]
          obtain ⟨m, hm⟩ : ∃ m, (safe.filter (neN s)).length = m := ⟨_, rfl⟩
          have e5 : ∀ e W, FilesO W4 base (safe.filter (neN s)) e W → ∃ A c, e = .returned (.slice A m c) ∧ Hid (FilesN W4.heap.size W base (.slice A m c) (safe.filter (neN s)) ∧ Below W4.heap.size W4 W) := fun e W hr => by
            obtain ⟨A, c, rfl, h1, h2⟩ := hr
            rw [hm] at h1 ⊢
            exact ⟨A, c, rfl, Lib.hid ⟨h1, h2⟩⟩
          have CW2 := Lib.hid (CW.mono e5)
          have HM := Lib.hid hm
          have HOUT := Lib.hid hout
          rw [← HW4.out] at CW2 k3 HPOST
          cases ts with
          | true =>
            clear CW e5 hm hout hnone hqf
            go_wp2_with fail
            refine CW2.out.mono ?_
            clear CW2
            rintro e W5 ⟨A, c, rfl, HX⟩
            obtain ⟨⟨j3, jf⟩, HF⟩ := HPOST.out A c m W5 _ HM.out HX.out.1 HX.out.2 HOUT.out
            clear HPOST HX HOUT HM k3
            go_wp2_with fail
            go_ret
            exact HF.out
          | false =>
            have hnk : n ≠ k := by
              rw [hln, HC.out] at hqf
              intro hh
              subst hh
              simp at hqf
            have hnC : ((n : Int) == (k : Int)) = false := by rw [beq_eq_false_iff_ne]; omega
            clear CW e5 hm hout hnone hqf hnk
            go_wp2_with fail
            refine CW2.out.mono ?_
            clear CW2
            rintro e W5 ⟨A, c, rfl, HX⟩
            obtain ⟨⟨j3, jf⟩, HF⟩ := HPOST.out A c m W5 _ HM.out HX.out.1 HX.out.2 HOUT.out
            clear HPOST HX HOUT HM k3
            go_wp2_with fail
            go_ret
            exact HF.out

set_option maxRecDepth 100000 in
set_option maxHeartbeats 2000000 in
theorem refSync_no (n : Nat) (hn0 : n ≠ 0) (w : World) (base q : Nat) (room : Int) (fails : Bool) (now safe : List RF) (chs : List RC) (h : RefD w base q room fails now safe chs) (s : ByteArray) (hs63 : s.size ≤ 9223372036854775807) (hn : refN fails s 0 = n) :
    Calls Try.prog 33 #[.pointer (some ⟨q, 0, none⟩), .string s] w (RefO w base q n room fails now safe chs) := by
  have HF : Hid (RefO w base q n room fails now safe chs (.returned (.int .i64 (n : Nat))) w) := Lib.hid ⟨rfl, h, h.keep⟩
  obtain ⟨hb, nv, sv, cv, h1, h2, h3, h4⟩ := h
  have CR := Lib.hid (refReady_calls q room fails nv sv cv s hs63 0 w h1)
  rw [hn] at CR
  have hnI : ((n : Int) == 0) = false := by rw [beq_eq_false_iff_ne]; omega
  clear hn h1 h2 h3 h4
  go_enter Try.func33, Try.ntmps33
  go_wp2_with fail
  refine CR.out.mono ?_
  clear CR
  rintro e W ⟨rfl, rfl⟩
  go_wp2_with fail
  go_ret
  exact HF.out

end Go.Proofs.Ytnjjjalenhbicaa.Disk
