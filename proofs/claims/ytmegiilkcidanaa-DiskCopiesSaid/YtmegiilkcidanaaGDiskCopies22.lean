/-
  Put together out of texts of one chain: what they hold stands ahead of each.
-/
import Derived.Test.YtmegiilkcidanaaGDiskCopies20
import Derived.Test.YtmegiilkcidanaaGDiskCopies12
/-
  The disk as data and the document's disk's lists: that they are alike, and that each call keeps them so.
-/
namespace Go.Proofs.Ytmegiilkcidanaa.Disk
open Go Go.RowKit Go.Sort Go.Lib Go.Proofs.Ytmegiilkcidanaa.Law

/-- A change as plain data. -/
def plainR (c : RC) : Nat × ByteArray × Nat × List Nat := (c.1.kind, c.1.name, c.1.pos, c.1.data)
def plainD (x : ByteArray × Chg) : Nat × ByteArray × Nat × List Nat := (x.2.kind, x.1, x.2.pos, bytesS x.2.s)

/-- The lists tell what the disk is. -/
structure Rel (D : DS) (ns ss : List RF) (cs : List RC) : Prop where
  wf : WF D
  now : datF ns = D.now
  safe : datF ss = D.safe
  nowS : SortedF ns
  safeS : SortedF ss
  chs : cs.map plainR = D.chs.map plainD

theorem Rel.chLen {D : DS} {now safe : List RF} {chs : List RC} (h : Rel D now safe chs) : chs.length = D.chs.length := by
  have := congrArg List.length h.chs
  simpa using this
theorem Rel.fresh (room : Nat) (hr : room ≤ 1073741824) : Rel (DS.fresh room) [] [] [] :=
  ⟨WF.fresh room hr, by funext s; simp [datF, getF, findP, DS.fresh], by funext s; simp [datF, getF, findP, DS.fresh], List.Pairwise.nil, List.Pairwise.nil, rfl⟩

/-- Distinct values that all are in a list aren't more than it has. -/
theorem length_le_of_nodup {α : Type} [BEq α] [LawfulBEq α] : ∀ (l m : List α), l.Nodup → (∀ x ∈ l, x ∈ m) → l.length ≤ m.length
  | [], _, _, _ => Nat.zero_le _
  | a :: r, m, hn, hs => by
    rw [List.nodup_cons] at hn
    have ha : a ∈ m := hs a (by simp)
    have := length_le_of_nodup r (m.erase a) hn.2 (fun x hx => (List.mem_erase_of_ne (fun e => hn.1 (by rw [← e]; exact hx))).2 (hs x (List.mem_cons_of_mem _ hx)))
    rw [List.length_erase_of_mem ha] at this
    have hp : 0 < m.length := List.length_pos_of_mem ha
    rw [List.length_cons]
    omega
theorem SortedF.nodup {l : List RF} (h : SortedF l) : (l.map fun p => p.1.1).Nodup := by
  rw [List.Nodup, List.pairwise_map]
  exact h.imp fun h => ltN_ne h
theorem datF_mem {l : List RF} {p : RF} (h : p ∈ l) : datF l p.1.1 ≠ none := by
  intro e
  have h1 : getF l p.1.1 = none := by
    unfold datF at e
    cases h2 : getF l p.1.1 with
    | none => rfl
    | some q => rw [h2] at e; simp at e
  rw [getF_find, List.find?_eq_none] at h1
  exact h1 p h (by simp)
theorem Rel.nowIn {D : DS} {now safe : List RF} {chs : List RC} (h : Rel D now safe chs) : ∀ p ∈ now, p.1.1 ∈ D.names := fun p hp =>
  (h.wf.names _).2 (.inl (by rw [← h.now]; exact datF_mem hp))
theorem Rel.safeIn {D : DS} {now safe : List RF} {chs : List RC} (h : Rel D now safe chs) : ∀ p ∈ safe, p.1.1 ∈ D.names := fun p hp =>
  (h.wf.names _).2 (.inr (.inl (by rw [← h.safe]; exact datF_mem hp)))
theorem len_in {l : List RF} {names : List ByteArray} (hs : SortedF l) (h : ∀ p ∈ l, p.1.1 ∈ names) : l.length ≤ names.length := by
  have := length_le_of_nodup (l.map fun p => p.1.1) names hs.nodup (fun x hx => by
    obtain ⟨p, hp, rfl⟩ := List.mem_map.1 hx
    exact h p hp)
  simpa using this
theorem Rel.nowLen {D : DS} {now safe : List RF} {chs : List RC} (h : Rel D now safe chs) : now.length ≤ D.made := Nat.le_trans (len_in h.nowS h.nowIn) h.wf.count
theorem Rel.safeLen {D : DS} {now safe : List RF} {chs : List RC} (h : Rel D now safe chs) : safe.length ≤ D.made := Nat.le_trans (len_in h.safeS h.safeIn) h.wf.count

theorem datF_cons (p : RF) (l : List RF) : datF (p :: l) = upd (datF l) p.1.1 (some p.1.2) := by
  funext t
  unfold datF upd
  rw [getF_cons]
  by_cases h : t = p.1.1
  · subst h; simp
  · rw [if_neg h, if_neg (fun e => h e.symm)]
theorem datF_out {l : List RF} {s : ByteArray} (h : ∀ q ∈ l, q.1.1 ≠ s) : datF l s = none := by
  have : getF l s = none := by
    rw [getF_find, List.find?_eq_none]
    intro q hq
    simpa using h q hq
  unfold datF; rw [this]; rfl
theorem tot_total (names : List ByteArray) (hn : names.Nodup) : ∀ l : List RF, SortedF l → (∀ p ∈ l, p.1.1 ∈ names) → total names (datF l) = totF l
  | [], _, _ => by
    have : datF [] = fun _ => none := by funext s; simp [datF, getF, findP]
    rw [this]
    have h : ∀ m : List ByteArray, total m (fun _ => none) = 0 := fun m => by
      induction m with
      | nil => rfl
      | cons a r ih => unfold total at ih ⊢; rw [List.map_cons, List.sum_cons, ih]; rfl
    rw [h]; rfl
  | p :: r, hs, hi => by
    have hc := List.pairwise_cons.1 hs
    have ih := tot_total names hn r hc.2 fun q hq => hi q (List.mem_cons_of_mem _ hq)
    have h1 := total_in (datF r) p.1.1 (some p.1.2) names hn (hi p (by simp))
    rw [datF_out (l := r) (s := p.1.1) fun q hq => (ltN_ne (hc.1 q hq)).symm] at h1
    rw [datF_cons, totF_cons]
    simp only [szO] at h1
    omega
theorem Rel.used {D : DS} {now safe : List RF} {chs : List RC} (h : Rel D now safe chs) : usedF now = D.used := by
  rw [h.wf.used, ← h.now, tot_total D.names h.wf.nodup now h.nowS h.nowIn]
  rfl
theorem getB_datF (l : List RF) (s : ByteArray) : getB l s = (datF l s).getD [] ∧ (getB l s).length = szO (datF l s) := by
  unfold getB datF
  cases getF l s with
  | none => exact ⟨rfl, rfl⟩
  | some p => exact ⟨rfl, rfl⟩
theorem Rel.get {D : DS} {now safe : List RF} {chs : List RC} (h : Rel D now safe chs) (s : ByteArray) : getB now s = (D.now s).getD [] ∧ (getB now s).length = szO (D.now s) := by
  rw [← h.now]; exact getB_datF now s
theorem getF_some {l : List RF} {s : ByteArray} {p : RF} (h : getF l s = some p) : p ∈ l ∧ p.1.1 = s ∧ datF l s = some p.1.2 := by
  have h1 := h
  rw [getF_find] at h1
  refine ⟨List.mem_of_find?_eq_some h1, by simpa using List.find?_some h1, by unfold datF; rw [h]; rfl⟩
theorem getF_datF {l : List RF} {s : ByteArray} : getF l s = none ↔ datF l s = none := by
  unfold datF
  cases getF l s <;> simp
theorem plain_append (a : List RC) (x : RC) (b : List (ByteArray × Chg)) (y : ByteArray × Chg) (h : a.map plainR = b.map plainD) (hx : plainR x = plainD y) : (a ++ [x]).map plainR = (b ++ [y]).map plainD := by
  rw [List.map_append, List.map_append, h, List.map_singleton, List.map_singleton, hx]

variable {D : DS} {now safe : List RF} {chs : List RC}

theorem Rel.wrote (h : Rel D now safe chs) {s : ByteArray} {k : Nat} {d : List Nat} (hd : ∀ x ∈ d, x < 256) (h0 : D.writeN s k d.length = 0) (ov xv : Value) :
    Rel (D.write s k (str d)) (withF s ((s, overL (getB now s) k d), ov) now) safe (chs ++ [(⟨0, s, k, d⟩, xv)]) := by
  have hw := h.wf.write s k (str d)
  have e : D.write s k (str d) = D.wrote s k (str d) := by
    unfold DS.write; rw [str_size, if_pos h0]; simp
  rw [e] at hw ⊢
  refine ⟨hw, ?_, h.safe, h.nowS.withF _ _ rfl, h.safeS, plain_append _ _ _ _ h.chs ?_⟩
  · rw [datF_with, h.now, (h.get s).1]
    show _ = upd D.now s (some (overL ((D.now s).getD []) k (bytesS (str d))))
    rw [bytesS_str hd]
  · simp only [plainR, plainD, bytesS_str hd]
theorem Rel.cutD (h : Rel D now safe chs) {s : ByteArray} {k : Nat} (h0 : D.cutN s k = 0) {p : RF} (hp : getF now s = some p) (v xv : Value) :
    Rel (D.cut s k) (withF s ((s, p.1.2.take k), v) now) safe (chs ++ [(⟨1, s, k, []⟩, xv)]) := by
  have hw := h.wf.cut s k
  have e : D.cut s k = D.cutD s k := by unfold DS.cut; rw [if_pos h0]; simp
  rw [e] at hw ⊢
  refine ⟨hw, ?_, h.safe, h.nowS.withF _ _ rfl, h.safeS, plain_append _ _ _ _ h.chs rfl⟩
  rw [datF_with, h.now]
  show _ = upd D.now s (some (((D.now s).getD []).take k))
  rw [← h.now, (getF_some hp).2.2]; rfl
theorem Rel.removeD (h : Rel D now safe chs) {s : ByteArray} (h0 : D.removeN s = 0) (xv : Value) :
    Rel (D.remove s) (now.filter (neN s)) safe (chs ++ [(⟨2, s, 0, []⟩, xv)]) := by
  have hw := h.wf.remove s
  have e : D.remove s = D.removeD s := by unfold DS.remove; rw [if_pos h0]
  rw [e] at hw ⊢
  refine ⟨hw, ?_, h.safe, h.nowS.filter _, h.safeS, plain_append _ _ _ _ h.chs rfl⟩
  rw [datF_without, h.now]; rfl
theorem others_plain (s : ByteArray) : ∀ (a : List RC) (b : List (ByteArray × Chg)), a.map plainR = b.map plainD → (a.filter (neC s)).map plainR = (others s b).map plainD
  | [], [], _ => rfl
  | [], _ :: _, h => by simp at h
  | _ :: _, [], h => by simp at h
  | x :: a, y :: b, h => by
    rw [List.map_cons, List.map_cons, List.cons.injEq] at h
    have ih := others_plain s a b h.2
    have hn : x.1.name = y.1 := by
      have := h.1
      simp only [plainR, plainD, Prod.mk.injEq] at this
      exact this.2.1
    unfold others at ih ⊢
    by_cases hs : y.1 = s
    · have h1 : neC s x = false := by simp [neC, hn, hs]
      rw [List.filter_cons, h1, List.filter_cons]
      simpa [hs] using ih
    · have h1 : neC s x = true := by simp [neC, hn, hs]
      rw [List.filter_cons, h1, List.filter_cons]
      simp only [hs, decide_false, Bool.not_false, if_true, List.map_cons, ih, h.1]
theorem Rel.quiet (h : Rel D now safe chs) (s : ByteArray) : quietS now safe chs s = decide (s ∉ D.names) := by
  have hl : ((chs.filter (neC s)).length = chs.length) ↔ ¬ ∃ c, (s, c) ∈ D.chs := by
    have e1 : (chs.filter (neC s)).length = (others s D.chs).length := by
      have := congrArg List.length (others_plain s chs D.chs h.chs)
      simpa using this
    rw [e1, h.chLen]
    unfold others
    rw [List.length_filter_eq_length_iff]
    constructor
    · rintro h2 ⟨c, hc⟩
      have := h2 _ hc
      simp at this
    · intro h2 x hx
      simp only [Bool.not_eq_true', decide_eq_false_iff_not]
      rintro rfl
      exact h2 ⟨x.2, hx⟩
  have hn : (getF now s).isSome = (D.now s).isSome := by rw [← h.now]; unfold datF; cases getF now s <;> rfl
  have hs : (getF safe s).isSome = (D.safe s).isSome := by rw [← h.safe]; unfold datF; cases getF safe s <;> rfl
  unfold quietS
  rw [hn, hs, Bool.eq_iff_iff]
  simp only [Bool.and_eq_true, Bool.not_eq_true', decide_eq_true_eq, hl, h.wf.names s]
  cases D.now s <;> cases D.safe s <;> simp
theorem Rel.sync (h : Rel D now safe chs) {s : ByteArray} (h0 : refN D.fails s 0 = 0) :
    syncN now safe chs s = D.syncN s ∧ Rel (D.sync s) now (syncS now safe chs s) (syncC now safe chs s) := by
  have hw := h.wf.sync s
  unfold Disk.syncN syncS syncC
  rw [h.quiet s]
  by_cases hs : s ∈ D.names
  · have hd : decide (s ∉ D.names) = false := by simp [hs]
    have e0 : D.syncN s = 0 := by unfold DS.syncN; rw [if_neg (by simpa using h0), if_pos hs]
    have e : D.sync s = D.syncD s := by unfold DS.sync; rw [if_pos e0]
    rw [hd, e0]
    rw [e] at hw ⊢
    refine ⟨rfl, hw, h.now, ?_, h.nowS, ?_, others_plain s chs D.chs h.chs⟩
    · show datF (syncSafe now safe s) = upd D.safe s (D.now s)
      unfold syncSafe
      cases hg : getF now s with
      | none => rw [datF_without, h.safe, ← h.now, getF_datF.1 hg]
      | some p => rw [datF_with, h.safe, ← h.now, (getF_some hg).2.2]
    · show SortedF (syncSafe now safe s)
      unfold syncSafe
      cases hg : getF now s with
      | none => exact h.safeS.filter _
      | some p => exact h.safeS.withF _ _ rfl
  · have hd : decide (s ∉ D.names) = true := by simp [hs]
    have e0 : D.syncN s = 7 := by unfold DS.syncN; rw [if_neg (by simpa using h0), if_neg hs]
    have e : D.sync s = D := by unfold DS.sync; rw [if_neg (by rw [e0]; decide)]
    rw [hd, e0, e]
    exact ⟨rfl, h⟩
theorem behind_alike {c : RC} {x : ByteArray × Chg} (h : plainR c = plainD x) (p : Int) (o : Option (List Nat)) : behindR c.1 p o = behindD x.2 p o := by
  simp only [plainR, plainD, Prod.mk.injEq] at h
  obtain ⟨h1, _, h3, h4⟩ := h
  unfold behindR behindD
  rw [h1, h3, h4, bytesS_length]
theorem crash_alike (picks : List Int) (h : Rel D now safe chs) : ∀ k, crashR picks chs (datF safe) k = crashTo picks D.chs D.safe k
  | 0 => h.safe
  | k + 1 => by
    have ih := crash_alike picks h k
    have hk : (chs[k]?).map plainR = (D.chs[k]?).map plainD := by rw [← List.getElem?_map, ← List.getElem?_map, h.chs]
    unfold crashR crashTo
    cases h1 : chs[k]? with
    | none =>
      rw [h1] at hk
      cases h2 : D.chs[k]? with
      | none => exact ih
      | some y => rw [h2] at hk; simp at hk
    | some c =>
      rw [h1] at hk
      cases h2 : D.chs[k]? with
      | none => rw [h2] at hk; simp at hk
      | some y =>
        rw [h2] at hk
        have hp : plainR c = plainD y := by simpa using hk
        have hn : c.1.name = y.1 := by
          simp only [plainR, plainD, Prod.mk.injEq] at hp
          exact hp.2.1
        simp only [ih, hn, behind_alike hp]
theorem Rel.crash (h : Rel D now safe chs) (picks : List Int) {l : List RF} (hs : SortedF l) (hl : datF l = crashR picks chs (datF safe) chs.length) : Rel (D.crash picks) l l [] := by
  have e : datF l = D.crashSafe picks := by
    rw [hl, h.chLen]
    exact crash_alike picks h _
  exact ⟨h.wf.crash picks, e, e, hs, hs, rfl⟩
theorem Rel.fail (h : Rel D now safe chs) (b : Bool) : Rel (D.fail b) now safe chs := ⟨h.wf.fail b, h.now, h.safe, h.nowS, h.safeS, h.chs⟩
theorem Rel.limit (h : Rel D now safe chs) (r : Int) : Rel (D.limit r) now safe chs := by
  have hw := h.wf.limit r
  unfold DS.limit at hw ⊢
  split
  · rename_i hr; rw [if_pos hr] at hw; exact ⟨hw, h.now, h.safe, h.nowS, h.safeS, h.chs⟩
  · exact h

theorem datF_at : ∀ {l : List RF}, SortedF l → ∀ {p : RF}, p ∈ l → datF l p.1.1 = some p.1.2
  | [], _, _, hp => by simp at hp
  | a :: r, h, p, hp => by
    have hc := List.pairwise_cons.1 h
    rw [datF_cons]
    rcases List.mem_cons.1 hp with rfl | hp
    · exact upd_same _ _ _
    · rw [upd_other _ _ (ltN_ne (hc.1 p hp)).symm]
      exact datF_at hc.2 hp
/-- The names that are told are the list's. -/
theorem names_eq {l : List ByteArray} {ps : List RF} (h1 : l.Pairwise fun a b => ltN a b = true) (h2 : SortedF ps) (h : ∀ s, s ∈ l ↔ datF ps s ≠ none) : l = ps.map fun p => p.1.1 := by
  have h3 : (ps.map fun p => p.1.1).Pairwise fun a b => ltN a b = true := by rw [List.pairwise_map]; exact h2
  have hn1 : l.Nodup := h1.imp fun h => ltN_ne h
  have hm : ∀ s, s ∈ l ↔ s ∈ ps.map fun p => p.1.1 := fun s => by
    rw [h s, List.mem_map]
    constructor
    · intro hs
      cases hg : getF ps s with
      | none => exact absurd (getF_datF.1 hg) hs
      | some p => exact ⟨p, (getF_some hg).1, (getF_some hg).2.1⟩
    · rintro ⟨p, hp, rfl⟩
      exact datF_mem hp
  refine List.Perm.eq_of_pairwise (le := fun a b => ltN a b = true) ?_ h1 h3 ((List.perm_ext_iff_of_nodup hn1 h2.nodup).2 hm)
  intro a b _ _ e1 e2
  have := ltN_trans e1 e2
  rw [ltN, bytesLess_irr] at this
  cases this

end Go.Proofs.Ytmegiilkcidanaa.Disk
