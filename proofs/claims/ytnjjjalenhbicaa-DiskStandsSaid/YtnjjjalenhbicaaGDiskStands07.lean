/-
  Put together out of texts of one chain: what they hold stands ahead of each.
-/
import Derived.Test.YtnjjjalenhbicaaGDiskStands06
import Derived.Deep.RegionLaw
import Derived.Test.YtnjjjalenhbicaaGDiskStands05
/-
  The changes that aren't durable, as a row of the disk's own; contract of note.
-/
namespace Go.Proofs.Ytnjjjalenhbicaa.Disk
open Go Go.RowKit Go.Proofs.Ytnjjjalenhbicaa.Law

/-- A change. -/
structure Chg where
  n : Nat
  kind : Nat
  pos : Nat
  s : ByteArray

abbrev chgV (c : Chg) : Value := .agg #[.int .i64 (c.n : Nat), .int .i64 (c.kind : Nat), .int .i64 (c.pos : Nat), .string c.s]
/-- Changes as cells. -/
def flatC : List Chg → List Value
  | [] => []
  | c :: r => .int .i64 (c.n : Nat) :: .int .i64 (c.kind : Nat) :: .int .i64 (c.pos : Nat) :: .string c.s :: flatC r
theorem flatC_length : ∀ l : List Chg, (flatC l).length = l.length * 4
  | [] => rfl
  | c :: r => by simp only [flatC, List.length_cons, flatC_length r]; omega
theorem flatC_append : ∀ a b : List Chg, flatC (a ++ b) = flatC a ++ flatC b
  | [], b => by simp [flatC]
  | x :: a, b => by simp only [List.cons_append, flatC, flatC_append a b]
theorem flatC_one : ∀ l : List Chg, ∀ u ∈ flatC l, u.oneCell' = true
  | [], u, h => by simp [flatC] at h
  | c :: r, u, h => by
    simp only [flatC, List.mem_cons] at h
    rcases h with rfl | rfl | rfl | rfl | h
    · rfl
    · rfl
    · rfl
    · rfl
    · exact flatC_one r u h

/-- A row of changes. -/
def OwnC (W : World) (base : Nat) (v : Value) (l : List Chg) : Prop := W.ownsRow base 86 4 v l.length (flatC l)
theorem OwnC.nil (W : World) (base : Nat) : OwnC W base (.slice none 0 0) [] := ⟨rfl, .inl ⟨rfl, rfl⟩⟩
theorem OwnC.own {W : World} {base : Nat} {v : Value} {l : List Chg} (h : OwnC W base v l) : ∀ g, v.ownBlock = some g → base ≤ g ∧ g < W.heap.size := fun g hg => by
  have := World.ownsRow.lt h g hg
  exact this
theorem OwnC.form {W : World} {base : Nat} {v : Value} {l : List Chg} (h : OwnC W base v l) : ∃ A cap, v = .slice A l.length cap := by
  rcases h.2 with ⟨rfl, h0⟩ | ⟨g, cap, cur, rfl, _⟩
  · exact ⟨none, 0, by rw [h0]⟩
  · exact ⟨_, _, rfl⟩
theorem OwnC.keep {W W' : World} {base : Nat} {v : Value} {l : List Chg} (h : OwnC W base v l) (hb : ∀ g, v.ownBlock = some g → W'.heap[g]? = W.heap[g]?) : OwnC W' base v l := by
  refine ⟨h.1, ?_⟩
  rcases h.2 with h0 | ⟨g, cap, cur, rfl, h1, h2, h3⟩
  · exact .inl h0
  · exact .inr ⟨g, cap, cur, rfl, h1, (hb g rfl).trans h2, h3⟩

theorem info_change : (Try.prog.info? 86).map (fun i => (i.zero, i.size, i.bytes)) = some (some (.agg #[.int .i64 0, .int .i64 0, .int .i64 0, .string ⟨#[]⟩]), 4, 40) := by kernel_rfl

/-- A change that lies in a block is put behind a row's. -/
theorem OwnC.append {W : World} {base : Nat} {v : Value} {l : List Chg} (h : OwnC W base v l) (hbase : base ≤ W.heap.size) (c : Chg) (ty : TypeId) (b : Nat)
    (hb : W.heap[b]? = some (.cells #[.int .i64 (c.n : Nat), .int .i64 (c.kind : Nat), .int .i64 (c.pos : Nat), .string c.s] 86 (0, 0))) (hroom : (l.length + 1) * 40 ≤ 140737488355328) :
    ∃ v' W', (Builtin.append_ #[76, 76] ty #[v, .slice (some ⟨b, 0, none⟩) 1 1]).run Try.prog W = .ok v' W' ∧ OwnC W' base v' (l ++ [c]) ∧ W.grownBy W' v.ownBlock ∧ (v'.ownBlock = v.ownBlock ∨ v'.ownBlock = some W.heap.size) := by
  obtain ⟨i0, hi, hz0, hz1, hz2⟩ := info_parts info_change
  obtain ⟨v', W', hrun, h2, h3, _, h5⟩ := run_append_own_at (P := Try.prog) W base 76 ty 86 i0 _ 4 40 Try.underlying76 hi hz0 hz1 hz2 rfl (by decide) v l.length (flatC l) h ⟨b, 0, none⟩ 1 1 (flatC [c]) (flatC_length [c])
    (fun j u hu => by
      rw [Addr.add_lit]
      match j, hu with
      | 0, hu => simp [flatC] at hu; subst hu; simp [World.cell?, hb]
      | 1, hu => simp [flatC] at hu; subst hu; simp [World.cell?, hb]
      | 2, hu => simp [flatC] at hu; subst hu; simp [World.cell?, hb]
      | 3, hu => simp [flatC] at hu; subst hu; simp [World.cell?, hb]
      | j + 4, hu => simp [flatC] at hu) (flatC_one [c]) (by simp only [maxLen]; omega) hroom hbase
  refine ⟨v', W', hrun, ?_, h3, h5⟩
  show W'.ownsRow _ _ _ _ _ _
  rw [List.length_append, flatC_append]
  exact h2

theorem block_set {w : World} {b : Nat} {cs : Array Value} {t : TypeId} {z : Nat × Nat} (h : w.heap[b]? = some (.cells cs t z)) (i : Nat) (v : Value) : (w.setCell ⟨b, i, none⟩ v).heap[b]? = some (.cells (cs.setIfInBounds i v) t z) := by
  simp [World.setCell, Array.getElem?_modify, h]

/-- What note leaves. -/
def Noted (w : World) (db mb fb : Nat) (room used : Int) (made : Nat) (fails nt st sh : Bool) (nv sv cv : Value) (l : List Chg) (c : Chg) (base : Nat) (W : World) : Prop :=
  ∃ cv', DB W db mb room used ((made + 1 : Nat) : Int) fails ∧ FB W fb nt nv st sv sh cv' ∧ OwnC W base cv' (l ++ [⟨made, c.kind, c.pos, c.s⟩]) ∧ (cv'.ownBlock = cv.ownBlock ∨ ∃ g, cv'.ownBlock = some g ∧ w.heap.size ≤ g) ∧
    w.os = W.os ∧ w.tape = W.tape ∧ w.output = W.output ∧ w.heap.size ≤ W.heap.size ∧ ∀ k, k < w.heap.size → k ≠ db → k ≠ fb → cv.ownBlock ≠ some k → W.heap[k]? = w.heap[k]?

theorem note_append {w : World} {db base : Nat} {v : Value} {l : List Chg} (h : OwnC w base v l) (hbase : base ≤ w.heap.size) (c : Chg) (ty : TypeId) (hdb : db < base) (hroom : (l.length + 1) * 40 ≤ 140737488355328) (u : Value) :
    ∃ A len cap W1, (Builtin.append_ #[76, 76] ty #[v, .slice (some ⟨w.heap.size + 1, 0, none⟩) 1 1]).run Try.prog ((((w.setCell ⟨db, 3, none⟩ u).alloc (.cells #[.int .i64 (c.n : Nat), .int .i64 (c.kind : Nat), .int .i64 (c.pos : Nat), .string c.s] 86)).alloc (.cells #[.int .i64 (c.n : Nat), .int .i64 (c.kind : Nat), .int .i64 (c.pos : Nat), .string c.s] 86)).drew) = .ok (.slice A len cap) W1 ∧
      OwnC W1 base (.slice A len cap) (l ++ [c]) ∧ ((((w.setCell ⟨db, 3, none⟩ u).alloc (.cells #[.int .i64 (c.n : Nat), .int .i64 (c.kind : Nat), .int .i64 (c.pos : Nat), .string c.s] 86)).alloc (.cells #[.int .i64 (c.n : Nat), .int .i64 (c.kind : Nat), .int .i64 (c.pos : Nat), .string c.s] 86)).drew).grownBy W1 v.ownBlock ∧
      ((Value.slice A len cap).ownBlock = v.ownBlock ∨ (Value.slice A len cap).ownBlock = some (w.heap.size + 2)) := by
  obtain ⟨W0, hW0⟩ : ∃ W0, ((((w.setCell ⟨db, 3, none⟩ u).alloc (.cells #[.int .i64 (c.n : Nat), .int .i64 (c.kind : Nat), .int .i64 (c.pos : Nat), .string c.s] 86)).alloc (.cells #[.int .i64 (c.n : Nat), .int .i64 (c.kind : Nat), .int .i64 (c.pos : Nat), .string c.s] 86)).drew) = W0 := ⟨_, rfl⟩
  have hsz : W0.heap.size = w.heap.size + 2 := by rw [← hW0]; simp [World.setCell]
  have hk : ∀ k, k < w.heap.size → k ≠ db → W0.heap[k]? = w.heap[k]? := fun k hk hne => by
    rw [← hW0]
    show (((w.setCell ⟨db, 3, none⟩ u).alloc _).alloc _).heap[k]? = _
    rw [Below.heap_alloc _ _ _ (by simp [World.setCell]; omega), Below.heap_alloc _ _ _ (by simp [World.setCell]; omega), Below.heap_setCell _ _ _ _ hne]
  have hb : W0.heap[w.heap.size + 1]? = some (.cells #[.int .i64 (c.n : Nat), .int .i64 (c.kind : Nat), .int .i64 (c.pos : Nat), .string c.s] 86 (0, 0)) := by
    rw [← hW0]
    have := heap_alloc_new ((w.setCell ⟨db, 3, none⟩ u).alloc (.cells #[.int .i64 (c.n : Nat), .int .i64 (c.kind : Nat), .int .i64 (c.pos : Nat), .string c.s] 86)) (.cells #[.int .i64 (c.n : Nat), .int .i64 (c.kind : Nat), .int .i64 (c.pos : Nat), .string c.s] 86)
    have e : ((w.setCell ⟨db, 3, none⟩ u).alloc (.cells #[.int .i64 (c.n : Nat), .int .i64 (c.kind : Nat), .int .i64 (c.pos : Nat), .string c.s] 86)).heap.size = w.heap.size + 1 := by simp [World.setCell]
    rw [e] at this
    exact this
  rw [hW0]
  have hO : OwnC W0 base v l := h.keep fun g hg => hk g (h.own g hg).2 (by have := (h.own g hg).1; omega)
  obtain ⟨v', W1, hrun, h1, h2, h3⟩ := hO.append (by omega) c ty (w.heap.size + 1) hb hroom
  obtain ⟨A, cap, rfl⟩ := h1.form
  exact ⟨A, _, cap, W1, hrun, h1, h2, by rw [← hsz]; exact h3⟩

theorem note_done {w W0 W1 : World} {db mb fb : Nat} {room used : Int} {made : Nat} {fails nt st sh : Bool} {nv sv cv : Value} {l : List Chg} {c : Chg} {base : Nat} (x : Obj)
    (h : DB w db mb room used made fails) (hf : FB w fb nt nv st sv sh cv) (hne : db ≠ fb) (hl : OwnC w base cv l) (hdbb : db < base) (hfbb : ∀ g, cv.ownBlock = some g → g ≠ fb)
    (hW0 : W0 = ((((w.setCell ⟨db, 3, none⟩ (.int .i64 ((made : Nat) + 1))).alloc x).alloc x).drew)) (A : Option Addr) (len cap : Nat)
    (hO : OwnC W1 base (.slice A len cap) (l ++ [⟨made, c.kind, c.pos, c.s⟩])) (hgr : W0.grownBy W1 cv.ownBlock) (hor : (Value.slice A len cap).ownBlock = cv.ownBlock ∨ (Value.slice A len cap).ownBlock = some (w.heap.size + 2)) :
    Noted w db mb fb room used made fails nt st sh nv sv cv l c base (W1.setCell ⟨fb, 5, none⟩ (.slice A len cap)) := by
  have hdb := h.lt
  have hfb := hf.lt
  have hsz : W0.heap.size = w.heap.size + 2 := by rw [hW0]; simp [World.setCell]
  have hk : ∀ k, k < w.heap.size → k ≠ db → W0.heap[k]? = w.heap[k]? := fun k hk hne => by
    rw [hW0]
    show (((w.setCell ⟨db, 3, none⟩ _).alloc _).alloc _).heap[k]? = _
    rw [Below.heap_alloc _ _ _ (by simp [World.setCell]; omega), Below.heap_alloc _ _ _ (by simp [World.setCell]; omega), Below.heap_setCell _ _ _ _ hne]
  have hd0 : W0.heap[db]? = some (.cells #[.map (some mb), .int .i64 room, .int .i64 used, .int .i64 ((made + 1 : Nat) : Int), .bool fails] 64 (0, 0)) := by
    rw [hW0]
    show (((w.setCell ⟨db, 3, none⟩ _).alloc _).alloc _).heap[db]? = _
    rw [Below.heap_alloc _ _ _ (by simp [World.setCell]; omega), Below.heap_alloc _ _ _ (by simp [World.setCell]; omega), block_set h]
    simp
  have hcf : cv.ownBlock ≠ some fb := fun e => hfbb fb e rfl
  have hcd : cv.ownBlock ≠ some db := fun e => by have := (hl.own db e).1; omega
  refine ⟨.slice A len cap, ?_, ?_, ?_, ?_, ?_, ?_, ?_, ?_, ?_⟩
  · exact (Below.heap_setCell _ _ _ _ hne).trans ((hgr.block db (by omega) (fun e => hcd e.symm)).trans hd0)
  · have := block_set ((hgr.block fb (by omega) (fun e => hcf e.symm)).trans ((hk fb hfb (Ne.symm hne)).trans hf)) 5 (.slice A len cap)
    exact this.trans (by simp)
  · refine hO.keep fun g hg => Below.heap_setCell _ _ _ _ ?_
    rintro rfl
    rcases hor with e | e
    · exact hcf (e.symm.trans hg)
    · rw [hg] at e
      simp only [Option.some.injEq] at e
      omega
  · rcases hor with e | e
    · exact .inl e
    · exact .inr ⟨_, e, by omega⟩
  · have := hgr.os; rw [hW0] at this; exact this.symm
  · have := hgr.tape; rw [hW0] at this; exact this.symm
  · have := hgr.output; rw [hW0] at this; exact this.symm
  · have := hgr.size; simp [World.setCell]; omega
  · intro k h1 h2 h3 h4
    rw [Below.heap_setCell _ _ _ _ h3, hgr.block k (by omega) (fun e => h4 e.symm), hk k h1 h2]

set_option maxRecDepth 100000 in
set_option maxHeartbeats 2000000 in
theorem note_calls (db mb fb : Nat) (room used : Int) (made : Nat) (hmade : made ≤ 4611686018427387904) (fails : Bool) (nt st sh : Bool) (na sa ca : Option Addr) (nl nc sl sc cl cc : Nat) (l : List Chg) (c : Chg) (base : Nat) (w : World)
    (h : DB w db mb room used made fails) (hf : FB w fb nt (.slice na nl nc) st (.slice sa sl sc) sh (.slice ca cl cc)) (hne : db ≠ fb) (hl : OwnC w base (.slice ca cl cc) l) (hbase : base ≤ w.heap.size) (hdbb : db < base) (hfbb : ∀ g, (Value.slice ca cl cc).ownBlock = some g → g ≠ fb) (hroom : (l.length + 1) * 40 ≤ 140737488355328) :
    Calls Try.prog 48 #[.pointer (some ⟨db, 0, none⟩), .pointer (some ⟨fb, 0, none⟩), chgV c] w fun e W => e = .returned (.tuple #[]) ∧ Noted w db mb fb room used made fails nt st sh (.slice na nl nc) (.slice sa sl sc) (.slice ca cl cc) l c base W := by
  have hdb := h.lt
  have hfb := hf.lt
  obtain ⟨A, len, cap, W1, hrun, hO, hgr, hor⟩ := note_append hl hbase ⟨made, c.kind, c.pos, c.s⟩ 76 hdbb hroom (.int .i64 ((made : Nat) + 1))
  have HRUN := Lib.hid hrun
  obtain ⟨⟨d0, d1, d2, d3, d4⟩, d5⟩ := h.cells
  obtain ⟨⟨f0, f1, f2, f3, f4, f5⟩, f6⟩ := hf.cells
  have f65 := f6 5
  have d53 := d5 3
  have hW1f : W1.heap[fb]? = w.heap[fb]? := by
    rw [hgr.block fb (by simp [World.setCell]; omega) (fun e => hfbb fb e.symm rfl)]
    show (((w.setCell ⟨db, 3, none⟩ _).alloc _).alloc _).heap[fb]? = _
    rw [Below.heap_alloc _ _ _ (by simp [World.setCell]; omega), Below.heap_alloc _ _ _ (by simp [World.setCell]; omega), Below.heap_setCell _ _ _ _ (Ne.symm hne)]
  have hf1 : FB W1 fb nt (.slice na nl nc) st (.slice sa sl sc) sh (.slice ca cl cc) := hW1f.trans hf
  have f15 := hf1.cells.1.2.2.2.2.2
  have f165 := hf1.cells.2 5
  have hdf : ¬ db = fb := hne
  have HDONE := Lib.hid (note_done (c := c) _ h hf hne hl hdbb hfbb rfl A len cap hO hgr hor)
  clear hrun h hf hne hl hdbb hfbb hO hgr hor hf1 hW1f f6 d5 hroom hbase
  go_enter Try.func48, Try.ntmps48
  go_wp2_with fail
  go_region_law (refine step_append_ran rfl _ _ _ rfl rfl rfl HRUN.out ?_)
  all_goals
    go_wp2_with fail
    go_end0
    exact ⟨rfl, HDONE.out⟩

end Go.Proofs.Ytnjjjalenhbicaa.Disk

/-
  Contracts of disk's cut and written.
-/
namespace Go.Proofs.Ytnjjjalenhbicaa.Disk
open Go Go.RowKit Go.Lib Go.Proofs.Ytnjjjalenhbicaa.Law

/-- A content of the call's own. -/
def ContentOut (w : World) (base : Nat) (there : Bool) (bs : List Nat) (e : Ending) (W : World) : Prop := ∃ v', e = .returned (contentV there v') ∧ Buf W base 5 v' bs ∧ Below w.heap.size w W

/-- What cut leaves: the front of the same block. -/
def CutOut (w : World) (A : Option Addr) (k : Nat) (e : Ending) (W : World) : Prop := e = .returned (contentV true (.slice A k k)) ∧ Below w.heap.size w W

set_option maxRecDepth 100000 in
set_option maxHeartbeats 2000000 in
theorem cut_calls (there : Bool) (A : Option Addr) (len cap k : Nat) (hA : A = none → cap = 0) (hspot : ∀ a, A = some a → a.spot = none) (hk : k ≤ cap) (hcap : cap ≤ 9223372036854775807) (w : World) :
    Calls Try.prog 49 #[contentV there (.slice A len cap), .int .i64 (k : Nat)] w (CutOut w A k) := by
  cases A with
  | none =>
    have := hA rfl
    obtain rfl : k = 0 := by omega
    subst this
    clear hA hspot
    go_enter Try.func49, Try.ntmps49
    go_wp2
    refine bodyPost_ret (v := contentV true (.slice none 0 0)) (by simp [results, Try.results49, go_sem]) rfl ⟨rfl, ?_⟩
    exact ((Below.refl _ _).alloc (Nat.le_refl _) _).alloc (by simp) _
  | some a =>
    obtain ⟨b, o, sp⟩ := a
    have := hspot _ rfl
    simp only at this
    subst this
    have hkI : (k : Int) ≤ (cap : Int) := by omega
    clear hA hspot
    go_enter Try.func49, Try.ntmps49
    go_wp2
    refine bodyPost_ret (v := contentV true (.slice (some ⟨b, o, none⟩) k k)) (by simp [results, Try.results49, go_sem]) rfl ⟨rfl, ?_⟩
    exact ((Below.refl _ _).alloc (Nat.le_refl _) _).alloc (by simp) _

theorem step_append_ran2 {P : Program} {ops : Array Oper} {o : Oper} {a : Act} {w : World} {K : Act → World → Prop} {Q : Exit → Act → World → Prop} {E : Prop} (hgd : Region.wanted o (yielded ops a.tmps) = true) (s x : Operand) (t u : TypeId)
    (ho : o.op = .call { callee := .builtin .append, args := #[s, x], argTypes := #[t, u] }) {v sv v' : Value} {w' : World} (hs : a.eval s = v) (hx : a.eval x = sv)
    (hrun : (Builtin.append_ #[t, u] o.type #[v, sv]).run P w = .ok v' w') (h : K (a.put o.dst v') w') : if Region.wanted o (yielded ops a.tmps) = true then Oper.wp P o a w K Q else E := by
  rw [if_pos hgd]
  unfold Oper.wp execOp
  simp only [ho, resolve, invoke, builtin, Sem.run_bind, Sem.run_pure, Result.andThen_ok, List.map_toArray, List.map_cons, List.map_nil, hs, hx, hrun]
  exact h
theorem wpList_copy_ran {P : Program} {ops : Array Oper} {rest : List Oper} {o : Oper} {a : Act} {w : World} {Q : Exit → Act → World → Prop} (hgd : Region.wanted o (yielded ops a.tmps) = true) (s x : Operand) (t u : TypeId)
    (ho : o.op = .call { callee := .builtin .copy, args := #[s, x], argTypes := #[t, u] }) {v sv v' : Value} {w' : World} (hs : a.eval s = v) (hx : a.eval x = sv)
    (hrun : (Builtin.copy_ #[t, u] o.type #[v, sv]).run P w = .ok v' w') (h : wpList P ops Q rest (a.put o.dst v') w') : wpList P ops Q (o :: rest) a w := by
  refine wpList_step fun K hK => ?_
  rw [if_pos hgd]
  unfold Oper.wp execOp
  simp only [ho, resolve, invoke, builtin, Sem.run_bind, Sem.run_pure, Result.andThen_ok, List.map_toArray, List.map_cons, List.map_nil, hs, hx, hrun]
  exact hK _ _ h

/-- Bytes with others from a place on. -/
def overL (bs : List Nat) (k : Nat) (d : List Nat) : List Nat := bs.take k ++ d ++ bs.drop (k + d.length)
theorem overL_parts (bs : List Nat) (k : Nat) (hk : k ≤ bs.length) (d : List Nat) (n : Nat) (hn : n = Nat.min d.length (bs.length - k)) : overL bs k d = (bs.take k ++ d.take n ++ bs.drop (k + n)) ++ d.drop n := by
  unfold overL
  by_cases h : d.length ≤ bs.length - k
  · have : n = d.length := by rw [hn]; exact Nat.min_eq_left h
    subst this
    simp
  · have h1 : n = bs.length - k := by rw [hn]; exact Nat.min_eq_right (by omega)
    have h2 : bs.drop (k + n) = [] := List.drop_of_length_le (by omega)
    have h3 : bs.drop (k + d.length) = [] := List.drop_of_length_le (by omega)
    rw [h2, h3]
    simp

/-- A string is copied into a buffer's bytes. -/
theorem Buf_copy {W : World} {base g len cap : Nat} {bs : List Nat} (h : Buf W base 5 (.slice (some ⟨g, 0, none⟩) len cap) bs) (k : Nat) (hk : k ≤ len) (s : ByteArray) (ty : TypeId) :
    ∃ W', (Builtin.copy_ #[34, 9] ty #[.slice (some ⟨g, k, none⟩) (len - k) (cap - k), .string s]).run Try.prog W = .ok (goInt (Nat.min s.size (len - k))) W' ∧ W.grownBy W' (some g) ∧ W'.heap.size = W.heap.size ∧
      Buf W' base 5 (.slice (some ⟨g, 0, none⟩) len cap) (bs.take k ++ (bytesS s).take (Nat.min s.size (len - k)) ++ bs.drop (k + Nat.min s.size (len - k))) ∧
      (∀ b2 v2 xs, Buf W b2 5 v2 xs → v2.ownBlock = some g → xs.length ≤ k → Buf W' b2 5 v2 xs) := by
  obtain ⟨i0, hi, hz0, hz1, hz2⟩ := info_parts info_u8d
  rcases h.2 with ⟨hv, _⟩ | ⟨g', cap', cur, hv, hb, hg, hn, hc, hm, ht⟩
  · cases hv
  · simp only [Value.slice.injEq, Option.some.injEq, Addr.mk.injEq, and_true] at hv
    obtain ⟨rfl, rfl, rfl⟩ := hv
    have HM := Lib.hid hm
    clear hm
    obtain ⟨n, hnn⟩ : ∃ n, Nat.min s.size (bs.length - k) = n := ⟨_, rfl⟩
    have hn1 : n ≤ s.size := by rw [← hnn]; exact Nat.min_le_left _ _
    have hn2 : n ≤ bs.length - k := by rw [← hnn]; exact Nat.min_le_right _ _
    have hr := run_copy_string (P := Try.prog) W 34 9 ty 5 g k (bs.length - k) (cap - k) s cur 5 Try.underlying34 (by rw [hi]; simp [hz1]) hg (by rw [hnn]; omega)
    rw [hnn] at hr ⊢
    have hg' := setRow_heap W g cur (cur.toList.take k ++ (strCells s).take n ++ cur.toList.drop (k + n)).toArray 5 (0, 0) hg
    have hl : ((strCells s).take n).length = n := by rw [List.length_take, strCells_length]; omega
    have hlt : (cur.toList.take k).length = k := by rw [List.length_take, Array.length_toList]; omega
    have hsz : (cur.toList.take k ++ (strCells s).take n ++ cur.toList.drop (k + n)).toArray.size = cur.size := by
      simp only [List.size_toArray, List.length_append, hl, hlt, List.length_drop, Array.length_toList]; omega
    have hlen : (bs.take k ++ (bytesS s).take n ++ bs.drop (k + n)).length = bs.length := by
      simp only [List.length_append, List.length_take, List.length_drop, bytesS_length]; omega
    refine ⟨_, hr, setRow_grown W g _, by simp, ⟨fun x hx => ?_, .inr ⟨g, cap, _, by rw [hlen], hb, hg', by rw [hlen]; exact hn, by rw [hsz]; exact hc, HM.out, ?_⟩⟩, fun b2 v2 xs hb2 he hle => ?_⟩
    · rcases List.mem_append.1 hx with hx | hx
      · rcases List.mem_append.1 hx with hx | hx
        · exact h.1 x (List.mem_of_mem_take hx)
        · exact bytesS_lt s x (List.mem_of_mem_take hx)
      · exact h.1 x (List.mem_of_mem_drop hx)
    · rw [hlen]
      show List.take bs.length (cur.toList.take k ++ (strCells s).take n ++ cur.toList.drop (k + n)) = _
      have e1 : cur.toList.take k = vals (bs.take k) := by
        have : (cur.toList.take bs.length).take k = cur.toList.take k := by rw [List.take_take, Nat.min_eq_left (by omega)]
        rw [← this, ht]; simp [vals, List.map_take]
      have e2 : (cur.toList.drop (k + n)).take (bs.length - (k + n)) = vals (bs.drop (k + n)) := by
        have : (cur.toList.take bs.length).drop (k + n) = (cur.toList.drop (k + n)).take (bs.length - (k + n)) := List.drop_take
        rw [← this, ht]; simp [vals, List.map_drop]
      have e3 : (strCells s).take n = vals ((bytesS s).take n) := by rw [strCells_vals]; simp [vals, List.map_take]
      have hpre : (cur.toList.take k ++ (strCells s).take n).length = k + n := by rw [List.length_append, hlt, hl]
      rw [List.take_append, List.take_of_length_le (by rw [hpre]; omega), hpre, e2, e1, e3, vals_append, vals_append]
    · refine hb2.front_kept hg hg' hsz he ?_ (hb2.own g he).1
      show List.take xs.length (cur.toList.take k ++ (strCells s).take n ++ cur.toList.drop (k + n)) = _
      rw [List.append_assoc, List.take_append_of_le_length (by rw [hlt]; exact hle), List.take_take, Nat.min_eq_left hle]

end Go.Proofs.Ytnjjjalenhbicaa.Disk
