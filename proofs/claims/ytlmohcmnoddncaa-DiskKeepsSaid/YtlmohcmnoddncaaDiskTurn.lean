/-
  A crash: one change comes upon a file; one file is settled; the disk behind it.
-/
import Derived.Test.YtlmohcmnoddncaaDiskMid
namespace Go.Proofs.Ytlmohcmnoddncaa.Disk
open Go Go.RowKit Go.Lib Go.Proofs.Ytlmohcmnoddncaa.Law

/-- Numbers that a slice tells, in a block of which Q holds. -/
def Ints (Q : Nat → Prop) (W : World) (v : Value) (ps : List Int) : Prop :=
  ∃ A cap, v = .slice A ps.length cap ∧ ps.length ≤ cap ∧ (0 < ps.length → ∃ b off, A = some ⟨b, off, none⟩ ∧ Q b ∧ ∀ j, j < ps.length → W.cell? ⟨b, off + j, none⟩ = some (.int .i64 (ps.getD j 0)))
theorem Ints.at {Q : Nat → Prop} {W W' : World} {v : Value} {ps : List Int} (h : Ints Q W v ps) (hk : ∀ b, Q b → W'.heap[b]? = W.heap[b]?) : Ints Q W' v ps := by
  obtain ⟨A, cap, h1, h2, h3⟩ := h
  refine ⟨A, cap, h1, h2, fun hp => ?_⟩
  obtain ⟨b, off, h4, h5, h6⟩ := h3 hp
  refine ⟨b, off, h4, h5, fun j hj => ?_⟩
  have := h6 j hj
  simp only [World.cell?, hk b h5] at this ⊢
  exact this

/-- The disk's files under the changes of a crash. -/
def MidI (w : World) (O : Owner) (db mb n1 : Nat) (D : DS) (F : ByteArray → Option Nat) (picks : List Int) (k : Nat) (W : World) : Prop :=
  (∃ O', Mid w O (db + 1) n1 D.names F (crashTo picks D.chs D.safe k) D.names O' W) ∧ W.heap[db]? = w.heap[db]? ∧ W.heap[mb]? = w.heap[mb]?

theorem midI_own {w : World} {O : Owner} {db mb n1 B : Nat} {D : DS} {F : ByteArray → Option Nat} {picks : List Int} (hdb : db < w.heap.size) (hmb : mb < w.heap.size) (hB : w.heap.size ≤ B) : OwnFrom B (fun (pre : List (Nat × Chg)) W => MidI w O db mb n1 D F picks pre.length W) := by
  rintro s W W' row ⟨⟨O', h1⟩, h2, h3⟩ hg hr
  refine ⟨⟨O', h1.grown hg fun r e => ⟨Nat.le_trans hB (hr r e).1, (hr r e).2⟩⟩, (hg.block db (Nat.lt_of_lt_of_le hdb h1.size) fun e => ?_).trans h2, (hg.block mb (Nat.lt_of_lt_of_le hmb h1.size) fun e => ?_).trans h3⟩
  · have := (hr db e.symm).1; omega
  · have := (hr mb e.symm).1; omega

/-- A file that a change is about, in the middle. -/
theorem midI_file {w W : World} {O : Owner} {db mb n1 : Nat} {D : DS} {F : ByteArray → Option Nat} {picks : List Int} {k : Nat} (h : MidI w O db mb n1 D F picks k W) (hw : WF D) {y : ByteArray × Chg} (hy : D.chs[k]? = some y) :
    ∃ O' fb nt nv sh cv A c, F y.1 = some fb ∧ fb < w.heap.size ∧ Mid w O (db + 1) n1 D.names F (crashTo picks D.chs D.safe k) D.names O' W ∧
      FB W fb nt nv (crashTo picks D.chs D.safe k y.1).isSome (.slice A (szO (crashTo picks D.chs D.safe k y.1)) c) sh cv ∧ Buf W (db + 1) 5 (.slice A (szO (crashTo picks D.chs D.safe k y.1)) c) ((crashTo picks D.chs D.safe k y.1).getD []) ∧ O' fb = some (some y.1) ∧
      ∀ g, (Value.slice A (szO (crashTo picks D.chs D.safe k y.1)) c).ownBlock = some g → O' g = some (some y.1) := by
  obtain ⟨⟨O', hM⟩, _, _⟩ := h
  have hin : y.1 ∈ D.names := (hw.names y.1).2 (.inr (.inr ⟨y.2, List.mem_of_getElem? hy⟩))
  obtain ⟨fb, h1, h2, nt, nv, sh, cv, A, c, h3, h4, h5, h6, _⟩ := hM.files y.1 hin (.inl hin)
  exact ⟨O', fb, nt, nv, sh, cv, A, c, h1, h2, hM, h3, h4, h5, h6⟩

/-- One change has come. -/
theorem crash_turn {w W W0 W2 : World} {O O' : Owner} {db mb n1 fb : Nat} {D : DS} {F : ByteArray → Option Nat} {picks : List Int} {k : Nat} {y : ByteArray × Chg} {nt sh : Bool} {nv cv : Value} {A : Option Addr} {c : Nat} {e : Ending}
    (hc : Core w O db mb D F) (h : MidI w O db mb n1 D F picks k W) (hy : D.chs[k]? = some y) (hF : F y.1 = some fb) (hfb : fb < w.heap.size) (hM : Mid w O (db + 1) n1 D.names F (crashTo picks D.chs D.safe k) D.names O' W)
    (hfile : FB W fb nt nv (crashTo picks D.chs D.safe k y.1).isSome (.slice A (szO (crashTo picks D.chs D.safe k y.1)) c) sh cv) (hbuf : Buf W (db + 1) 5 (.slice A (szO (crashTo picks D.chs D.safe k y.1)) c) ((crashTo picks D.chs D.safe k y.1).getD []))
    (hO : O' fb = some (some y.1)) (hown : ∀ g, (Value.slice A (szO (crashTo picks D.chs D.safe k y.1)) c).ownBlock = some g → O' g = some (some y.1)) (hB : Below W.heap.size W W0)
    (hb : Behind W0 (db + 1) (.slice A (szO (crashTo picks D.chs D.safe k y.1)) c) (behindD y.2 (picks.getD k 0) (crashTo picks D.chs D.safe k y.1)) e W2) :
    ∃ t A' l' c', e = .returned (.agg #[.bool t, .slice A' l' c']) ∧ (W2.cell? ⟨fb, 2, none⟩ = some (.bool (crashTo picks D.chs D.safe k y.1).isSome) ∧ W2.cell? ⟨fb, 3, none⟩ = some (.slice A (szO (crashTo picks D.chs D.safe k y.1)) c) ∧ W2.frozen? ⟨fb, 2, none⟩ = false ∧ W2.frozen? ⟨fb, 3, none⟩ = false) ∧
      MidI w O db mb n1 D F picks (k + 1) ((W2.setCell ⟨fb, 2, none⟩ (.bool t)).setCell ⟨fb, 3, none⟩ (.slice A' l' c')) ∧ KeepsOthers W ((W2.setCell ⟨fb, 2, none⟩ (.bool t)).setCell ⟨fb, 3, none⟩ (.slice A' l' c')) ∧
      (∀ r, w.heap.size ≤ r → r < n1 → ((W2.setCell ⟨fb, 2, none⟩ (.bool t)).setCell ⟨fb, 3, none⟩ (.slice A' l' c')).heap[r]? = W.heap[r]?) ∧ W.heap.size ≤ ((W2.setCell ⟨fb, 2, none⟩ (.bool t)).setCell ⟨fb, 3, none⟩ (.slice A' l' c')).heap.size := by
  obtain ⟨⟨_, _⟩, hd, hmb⟩ := h
  obtain ⟨o, ho⟩ : ∃ o, crashTo picks D.chs D.safe k y.1 = o := ⟨_, rfl⟩
  rw [ho] at hfile hbuf hown hb ⊢
  obtain ⟨o', ho'⟩ : ∃ o', behindD y.2 (picks.getD k 0) o = o' := ⟨_, rfl⟩
  rw [ho'] at hb
  obtain ⟨v', rfl, hbuf2, hgr, hor⟩ := hb
  obtain ⟨A', c', rfl, _⟩ := hbuf2.form
  have hbl := hbuf.own
  have hfbW : fb < W.heap.size := Nat.lt_of_lt_of_le hfb hM.size
  have hnf : (Value.slice A (szO o) c).ownBlock ≠ some fb := buf_not_file hfile hbuf
  have hfile2 : FB W2 fb nt nv o.isSome (.slice A (szO o) c) sh cv := ((hgr.block fb (Nat.lt_of_lt_of_le hfbW hB.size) fun e => hnf e.symm).trans (hB.block fb hfbW)).trans hfile
  obtain ⟨⟨_, _, f2, f3, _, _⟩, fz⟩ := hfile2.cells
  have hset : ∀ j, j ≠ fb → ((W2.setCell ⟨fb, 2, none⟩ (.bool o'.isSome)).setCell ⟨fb, 3, none⟩ (.slice A' (o'.getD []).length c')).heap[j]? = W2.heap[j]? := fun j hj => by
    rw [Below.heap_setCell _ _ _ _ hj, Below.heap_setCell _ _ _ _ hj]
  have hold : ∀ j, j < W.heap.size → j ≠ fb → (Value.slice A (szO o) c).ownBlock ≠ some j → ((W2.setCell ⟨fb, 2, none⟩ (.bool o'.isSome)).setCell ⟨fb, 3, none⟩ (.slice A' (o'.getD []).length c')).heap[j]? = W.heap[j]? := fun j hj h1 h2 => by
    rw [hset j h1, hgr.block j (Nat.lt_of_lt_of_le hj hB.size) fun e => h2 e.symm, hB.block j hj]
  have hfile3 : FB ((W2.setCell ⟨fb, 2, none⟩ (.bool o'.isSome)).setCell ⟨fb, 3, none⟩ (.slice A' (o'.getD []).length c')) fb nt nv o'.isSome (.slice A' (o'.getD []).length c') sh cv := by
    have := block_set (block_set hfile2 2 (.bool o'.isSome)) 3 (.slice A' (o'.getD []).length c')
    exact this.trans (by simp)
  have hvne : ∀ g, (Value.slice A' (o'.getD []).length c').ownBlock = some g → g ≠ fb := fun g hg e => by
    rcases hor g hg with h1 | h1
    · exact hnf (e ▸ h1)
    · have := hB.size; omega
  have hbuf3 := hbuf2.keep (W' := (W2.setCell ⟨fb, 2, none⟩ (.bool o'.isSome)).setCell ⟨fb, 3, none⟩ (.slice A' (o'.getD []).length c')) fun g hg => hset g (hvne g hg)
  have hsz : W.heap.size ≤ ((W2.setCell ⟨fb, 2, none⟩ (.bool o'.isSome)).setCell ⟨fb, 3, none⟩ (.slice A' (o'.getD []).length c')).heap.size := by
    have := hB.size; have := hgr.size; simp only [World.setCell, Array.size_modify]; omega
  have hdb := hc.disk.lt
  have hmbl := hc.lt mb (by rw [hc.omb]; simp)
  have hne : ∀ j, j < w.heap.size → (O j = none ∨ O j = some none) → j ≠ fb ∧ (Value.slice A (szO o) c).ownBlock ≠ some j := fun j hj hoj => by
    have hO2 : O' j = O j := hM.old j hj
    constructor
    · rintro rfl
      rw [hO2] at hO
      rcases hoj with h | h <;> rw [h] at hO <;> cases hO
    · intro e
      have := hown j e
      rw [hO2] at this
      rcases hoj with h | h <;> rw [h] at this <;> cases this
  have hos : W2.os = W.os ∧ W2.tape = W.tape ∧ W2.output = W.output := ⟨hgr.os.trans hB.os, hgr.tape.trans hB.tape, hgr.output.trans hB.output⟩
  rw [szO_getD] at hset hold hfile3 hvne hbuf3 hsz ⊢
  refine ⟨_, _, _, _, rfl, ⟨f2, f3, fz 2, fz 3⟩, ⟨⟨own O' W.heap.size ((W2.setCell ⟨fb, 2, none⟩ (.bool o'.isSome)).setCell ⟨fb, 3, none⟩ (.slice A' (szO o') c')).heap.size y.1, ?_⟩, ?_, ?_⟩, ⟨hsz, fun j x hj hx => ?_⟩, fun r h1 h2 => ?_, hsz⟩
  · rw [crashTo_succ hy, ho, ho']
    refine hM.turn (sv := .slice A (szO o) c) hF hO hfile3 hbuf3 hown (fun g hg => ?_) hold hsz hos.1 hos.2.1 hos.2.2
    rcases hor g (by rw [szO_getD]; exact hg) with h1 | h1
    · exact .inl h1
    · exact .inr (Nat.le_trans hB.size h1)
  · obtain ⟨h1, h2⟩ := hne db hdb (.inr hc.odb)
    exact (hold db (Nat.lt_of_lt_of_le hdb hM.size) h1 h2).trans hd
  · obtain ⟨h1, h2⟩ := hne mb hmbl (.inr hc.omb)
    exact (hold mb (Nat.lt_of_lt_of_le hmbl hM.size) h1 h2).trans hmb
  · refine (hold j (Array.getElem?_eq_some_iff.1 hj).1 (fun e => ?_) (fun e => ?_)).trans hj
    · subst e
      unfold FB at hfile
      rw [hfile] at hj
      obtain rfl := (Option.some.inj hj).symm
      cases hx
    · rcases hbuf.2 with ⟨h6, _⟩ | ⟨g', cap, cur, h6, _, h7, _⟩
      · rw [h6] at e; cases e
      · have : g' = j := by rw [h6] at e; simpa [Value.ownBlock] using e
        subst this
        rw [h7] at hj
        obtain rfl := (Option.some.inj hj).symm
        cases hx
  · have hO2 : O' r = none := Classical.byContradiction fun e => by rcases hM.new r e with h | h <;> omega
    refine hold r (Nat.lt_of_lt_of_le h2 hM.n1) (fun e => ?_) (fun e => ?_)
    · rw [e, hO] at hO2; cases hO2
    · rw [hown r e] at hO2; cases hO2

/-- A box of the call's own is written. -/
theorem midI_box {w W : World} {O : Owner} {db mb n1 : Nat} {D : DS} {F : ByteArray → Option Nat} {picks : List Int} {k : Nat} (h : MidI w O db mb n1 D F picks k W) (hdb : db < w.heap.size) (hmb : mb < w.heap.size) {b : Nat} (h1 : w.heap.size ≤ b) (h2 : b < n1) (v : Value) :
    MidI w O db mb n1 D F picks k (W.setCell ⟨b, 0, none⟩ v) := by
  obtain ⟨⟨O', hM⟩, h3, h4⟩ := h
  have hs : W.heap.size ≤ (W.setCell ⟨b, 0, none⟩ v).heap.size := by simp [World.setCell]
  refine ⟨⟨O', hM.keep hs (fun k cur t z s _ ho => Below.heap_setCell _ _ _ _ fun e => ?_) (fun k hk _ => Below.heap_setCell _ _ _ _ fun e => ?_) rfl rfl rfl⟩, (Below.heap_setCell _ _ _ _ fun e => ?_).trans h3, (Below.heap_setCell _ _ _ _ fun e => ?_).trans h4⟩
  · have e' : k = b := e
    rw [e'] at ho
    rcases hM.new b (by rw [ho]; simp) with h | h <;> omega
  · have e' : k = b := e
    omega
  · have e' : db = b := e
    omega
  · have e' : mb = b := e
    omega

/-- Where the map leads while the names to come aren't settled yet: those that have gone lead nowhere. -/
def goneF (F : ByteArray → Option Nat) (st : ByteArray → Option (List Nat)) (names rest : List ByteArray) : ByteArray → Option Nat := fun x => if x ∈ names ∧ x ∉ rest ∧ st x = none then none else F x
theorem goneF_start (F : ByteArray → Option Nat) (st : ByteArray → Option (List Nat)) (names : List ByteArray) : goneF F st names names = F := by
  funext x
  unfold goneF
  rw [if_neg]
  rintro ⟨h1, h2, _⟩
  exact h2 h1
theorem goneF_in {F : ByteArray → Option Nat} {st : ByteArray → Option (List Nat)} {names rest : List ByteArray} {s : ByteArray} (h : s ∈ rest) : goneF F st names rest s = F s := by
  unfold goneF
  rw [if_neg]
  rintro ⟨_, h2, _⟩
  exact h2 h
theorem goneF_kept {F : ByteArray → Option Nat} {st : ByteArray → Option (List Nat)} {names rest : List ByteArray} {s : ByteArray} (hst : st s ≠ none) : goneF F st names (rest.erase s) = goneF F st names rest := by
  funext x
  unfold goneF
  by_cases hx : x = s
  · subst hx
    rw [if_neg (fun h => hst h.2.2), if_neg (fun h => hst h.2.2)]
  · have : x ∈ rest.erase s ↔ x ∈ rest := List.mem_erase_of_ne hx
    simp only [this]
theorem goneF_gone {F : ByteArray → Option Nat} {st : ByteArray → Option (List Nat)} {names rest : List ByteArray} {s : ByteArray} (hs : s ∈ names) (hn : rest.Nodup) (hst : st s = none) : (fun x => if x = s then none else goneF F st names rest x) = goneF F st names (rest.erase s) := by
  funext x
  by_cases hx : x = s
  · subst hx
    rw [if_pos rfl]
    unfold goneF
    rw [if_pos ⟨hs, fun e => by rw [hn.mem_erase_iff] at e; exact e.1 rfl, hst⟩]
  · rw [if_neg hx]
    unfold goneF
    have : x ∈ rest.erase s ↔ x ∈ rest := List.mem_erase_of_ne hx
    simp only [this]
theorem total_erase (f : ByteArray → Option (List Nat)) {rest : List ByteArray} {s : ByteArray} (hs : s ∈ rest) : total rest f = szO (f s) + total (rest.erase s) f := by
  rw [total_perm f (List.perm_cons_erase hs)]
  unfold total
  rw [List.map_cons, List.sum_cons]

section
variable {w W : World} {O O' : Owner} {base n1 : Nat} {names : List ByteArray} {F : ByteArray → Option Nat} {st : ByteArray → Option (List Nat)} {rest : List ByteArray}

/-- A block of the disk's own turned. -/
theorem Mid.core {W' : World} (h : Mid w O base n1 names F st rest O' W) {k0 : Nat} (hg : W.grownBy W' (some k0)) (hk0 : k0 < w.heap.size) (ho : O k0 = some none) : Mid w O base n1 names F st rest O' W' := by
  refine h.keep hg.size (fun k cur t z s hc hO => hg.block k (Array.getElem?_eq_some_iff.1 hc).1 fun e => ?_) (fun k hk hO => hg.block k (Nat.lt_of_lt_of_le hk h.size) fun e => ?_) hg.os hg.tape hg.output
  · have e' : k = k0 := by simpa using e
    rw [e', h.old k0 hk0, ho] at hO
    cases hO
  · have e' : k = k0 := by simpa using e
    rw [e', ho] at hO
    cases hO
theorem grown_setCell (W : World) (k i : Nat) (v : Value) : W.grownBy (W.setCell ⟨k, i, none⟩ v) (some k) :=
  ⟨rfl, rfl, rfl, by simp [World.setCell], fun j _ hj => Below.heap_setCell _ _ _ j (fun e => hj (by rw [e]))⟩

theorem FileMid.mono {s : ByteArray} {fb : Nat} {o : Option (List Nat)} {d d' : Prop} (h : FileMid W O' base s fb o d) (hd : d' → d) : FileMid W O' base s fb o d' := by
  obtain ⟨nt, nv, sh, cv, A, c, h1, h2, h3, h4, h5⟩ := h
  exact ⟨nt, nv, sh, cv, A, c, h1, h2, h3, h4, fun h => h5 (hd h)⟩

/-- A name that has gone. -/
theorem Mid.gone (h : Mid w O base n1 names F st rest O' W) {s : ByteArray} (hn : rest.Nodup) (hst : st s = none) : Mid w O base n1 names F st (rest.erase s) O' W := by
  refine ⟨h.old, h.new, h.lt, fun x hx hr => ?_, h.same, h.os, h.tape, h.output, h.size, h.n1⟩
  by_cases hxs : x = s
  · subst hxs
    rcases hr with hr | hr
    · rw [hn.mem_erase_iff] at hr; exact absurd rfl hr.1
    · exact absurd hst hr
  · have e : x ∈ rest.erase s ↔ x ∈ rest := List.mem_erase_of_ne hxs
    obtain ⟨fb, h1, h2, h3⟩ := h.files x hx (hr.imp_left e.1)
    exact ⟨fb, h1, h2, h3.mono fun hd h4 => hd (e.2 h4)⟩

/-- A name that stays is settled. -/
theorem Mid.settle (h : Mid w O base n1 names F st rest O' W) {W0 : World} (hB : Below W.heap.size W W0) {s : ByteArray} {fb : Nat} (hs : s ∈ rest) (hF : F s = some fb) {nt sh : Bool} {nv cv : Value} {A : Option Addr} {c : Nat} (hst : (st s).isSome = true)
    (hfile : FB W fb nt nv (st s).isSome (.slice A (szO (st s)) c) sh cv) (hbuf : Buf W base 5 (.slice A (szO (st s)) c) ((st s).getD [])) (hO : O' fb = some (some s)) (hown : ∀ g, (Value.slice A (szO (st s)) c).ownBlock = some g → O' g = some (some s)) (hfb : fb < w.heap.size) :
    Mid w O base n1 names F st (rest.erase s) O' (setFile W0 fb true (.slice A (szO (st s)) c)) := by
  have hfbW : fb < W.heap.size := Nat.lt_of_lt_of_le hfb h.size
  have hnf : (Value.slice A (szO (st s)) c).ownBlock ≠ some fb := buf_not_file hfile hbuf
  have hoth : ∀ k, k < W.heap.size → k ≠ fb → (setFile W0 fb true (.slice A (szO (st s)) c)).heap[k]? = W.heap[k]? := fun k hk hne => by rw [setFile_other hne, hB.block k hk]
  have hsz : W.heap.size ≤ (setFile W0 fb true (.slice A (szO (st s)) c)).heap.size := by rw [setFile_size]; exact hB.size
  have hos : (setFile W0 fb true (.slice A (szO (st s)) c)).os = W0.os ∧ (setFile W0 fb true (.slice A (szO (st s)) c)).tape = W0.tape ∧ (setFile W0 fb true (.slice A (szO (st s)) c)).output = W0.output := by simp [setFile, World.setCell]
  have hf2 := setFile_file (there := true) (v := .slice A (szO (st s)) c) (hfile.below hB)
  generalize setFile W0 fb true (.slice A (szO (st s)) c) = W2 at hoth hsz hos hf2 ⊢
  refine ⟨h.old, h.new, fun k hk => Nat.lt_of_lt_of_le (h.lt k hk) hsz, fun x hx hr => ?_, fun k hk ho => ?_, (hos.1.trans hB.os).trans h.os, (hos.2.1.trans hB.tape).trans h.tape, (hos.2.2.trans hB.output).trans h.output, Nat.le_trans h.size hsz, Nat.le_trans h.n1 hsz⟩
  · by_cases hxs : x = s
    · subst hxs
      refine ⟨fb, hF, hfb, true, _, true, .slice none 0 0, A, c, ?_, hbuf.keep fun g hg => hoth g (hbuf.own g hg).2 (fun e => hnf (e ▸ hg)), hO, hown, fun _ => ⟨hst.symm, rfl, rfl, rfl⟩⟩
      rw [hst]; exact hf2
    · have e : x ∈ rest.erase s ↔ x ∈ rest := List.mem_erase_of_ne hxs
      obtain ⟨fx, h1, h2, h3⟩ := h.files x hx (hr.imp_left e.1)
      refine ⟨fx, h1, h2, (h3.mono fun hd h4 => hd (e.2 h4)).keep fun k cur t z hc ho => hoth k (Array.getElem?_eq_some_iff.1 hc).1 fun e2 => ?_⟩
      rw [e2, hO] at ho
      simp only [Option.some.injEq] at ho
      exact hxs ho.symm
  · refine (hoth k (Nat.lt_of_lt_of_le hk h.size) fun e => ?_).trans (h.same k hk ho)
    have := h.old k hk
    rw [e, hO, ← e, ho] at this
    cases this
end

/-- The disk behind a crash, all files settled. -/
theorem crashed_done {w W : World} {O O' : Owner} {db mb n1 n : Nat} {D : DS} {F : ByteArray → Option Nat} {picks : List Int} (hc : Core w O db mb D F) (h : Mid w O (db + 1) n1 D.names F (D.crashSafe picks) [] O' W)
    (hd : DB W db mb (D.room : Int) (total D.names (D.crashSafe picks) : Nat) (D.made : Int) false) (hn : n ≤ D.made) (hm : MapP Try.prog 9 W mb n (goneF F (D.crashSafe picks) D.names [])) :
    DiskAt W O' db (D.crash picks) ∧ Past w O W O' := by
  have hdb := hc.disk.lt
  have hmb : mb < w.heap.size := hc.lt mb (by rw [hc.omb]; simp)
  have hmem : ∀ s, s ∈ (D.crash picks).names ↔ s ∈ D.names ∧ (D.crashSafe picks s).isSome = true := fun s => List.mem_filter
  refine ⟨⟨mb, goneF F (D.crashSafe picks) D.names [], ⟨hd, ⟨n, hn, hm⟩, (h.old db hdb).trans hc.odb, (h.old mb hmb).trans hc.omb, fun s hs => ?_, h.lt⟩, fun s hs => ?_⟩, ⟨h.os, h.tape, h.output, h.size, h.same, fun k hk ho => (h.old k hk).trans ho⟩⟩
  · rw [hmem]
    unfold goneF
    by_cases h1 : s ∈ D.names
    · cases h2 : D.crashSafe picks s with
      | none => rw [if_pos ⟨h1, by simp, rfl⟩]; simp
      | some b =>
        rw [if_neg (fun h => by cases h.2.2)]
        simp [h1, (hc.dom s hs).2 h1]
    · rw [if_neg (fun h => h1 h.1)]
      simp [h1, mt (hc.dom s hs).1 h1]
  · obtain ⟨h1, h2⟩ := (hmem s).1 hs
    have hne : D.crashSafe picks s ≠ none := fun e => by rw [e] at h2; cases h2
    obtain ⟨fb, h3, h4, nt, nv, sh, cv, A, c, h5, h6, h7, h8, h9⟩ := h.files s h1 (.inr hne)
    obtain ⟨rfl, rfl, rfl, rfl⟩ := h9 (by simp)
    refine ⟨fb, ?_, true, _, _, _, h5, h6, h6, fun g _ _ => ⟨rfl, .inl (Nat.le_refl _)⟩, OwnC.nil _ _, h7, ?_⟩
    · unfold goneF
      rw [if_neg (fun h => hne h.2.2)]
      exact h3
    · rintro g (hg | hg | hg)
      · exact h8 g hg
      · exact h8 g hg
      · cases hg

end Go.Proofs.Ytlmohcmnoddncaa.Disk
