/-
  Graphs in memory: a slice value that reads as ints, as operators; a graph that came in.
-/
import Derived.Test.YtmfndimejnbgkaaGraphMath
import Derived.Test.YtmfndimejnbgkaaOps
import Derived.Test.YtmfndimejnbgkaaChecked
import Derived.OwnWalk
import Derived.Test.YtmfndimejnbgkaaRows
import Derived.Deep.Slices
import Derived.ChangeSame
import Derived.Laws.Rows
import Derived.LoopTactic
import Derived.Laws.StructEq
import Derived.BigQuiet
import Derived.Deep.QuietTactic
import Derived.WalkLawsBesides
import Derived.WalkSpells
import Derived.IntWalk
namespace Go.Proofs.Ytmfndimejnbgkaa.Graph
open Go Go.RowKit Go.ChangeShapes Go.WideShapes Go.Deep Go.Proofs.Ytmfndimejnbgkaa.Law

/-- The slice value reads as these ints; its block is in S. -/
def IntsAt (S : Nat → Prop) (W : World) (v : Value) (l : List Int) : Prop :=
  ∃ A cap, v = .slice A l.length cap ∧ l.length ≤ cap ∧ (A = none → cap = 0) ∧ (0 < l.length → ∃ b off, A = some ⟨b, off, none⟩ ∧ S b ∧ ∀ j x, l[j]? = some x → W.cell? ⟨b, off + j, none⟩ = some (.int .i64 x))
/-- The seven cells of an operator. -/
def Cells7 (W : World) (b o : Nat) (x : Opr) (u : Value) : Prop :=
  W.cell? ⟨b, o, none⟩ = some (.int .i64 x.kind) ∧ W.cell? ⟨b, o + 1, none⟩ = some u ∧ W.cell? ⟨b, o + 2, none⟩ = some (.int .i64 x.arg) ∧ W.cell? ⟨b, o + 3, none⟩ = some (.int .u32 (x.num : Nat)) ∧
  W.cell? ⟨b, o + 4, none⟩ = some (.int .i64 x.rounds) ∧ W.cell? ⟨b, o + 5, none⟩ = some (.int .i64 x.test) ∧ W.cell? ⟨b, o + 6, none⟩ = some (.int .u32 (x.lim : Nat))
/-- The slice value reads as these operators; all blocks are in S. -/
def OpsAt (S : Nat → Prop) (W : World) (v : Value) (l : List Opr) : Prop :=
  ∃ A cap, v = .slice A l.length cap ∧ l.length ≤ cap ∧ (A = none → cap = 0) ∧ (0 < l.length → ∃ b off, A = some ⟨b, off, none⟩ ∧ S b ∧ ∀ j x, l[j]? = some x → ∃ u, Cells7 W b (off + j * 7) x u ∧ IntsAt S W u x.ins)
theorem IntsAt.nil (S : Nat → Prop) (W : World) : IntsAt S W (.slice none 0 0) [] := ⟨none, 0, rfl, Nat.le_refl _, fun _ => rfl, fun h => absurd h (Nat.lt_irrefl _)⟩
theorem OpsAt.nil (S : Nat → Prop) (W : World) : OpsAt S W (.slice none 0 0) [] := ⟨none, 0, rfl, Nat.le_refl _, fun _ => rfl, fun h => absurd h (Nat.lt_irrefl _)⟩
theorem IntsAt.form {S : Nat → Prop} {W : World} {v : Value} {l : List Int} (h : IntsAt S W v l) : ∃ A cap, v = .slice A l.length cap ∧ l.length ≤ cap := by
  obtain ⟨A, cap, h1, h2, _⟩ := h; exact ⟨A, cap, h1, h2⟩
theorem OpsAt.form {S : Nat → Prop} {W : World} {v : Value} {l : List Opr} (h : OpsAt S W v l) : ∃ A cap, v = .slice A l.length cap ∧ l.length ≤ cap := by
  obtain ⟨A, cap, h1, h2, _⟩ := h; exact ⟨A, cap, h1, h2⟩
theorem IntsAt.at {S : Nat → Prop} {W : World} {A : Option Addr} {len cap : Nat} {l : List Int} (h : IntsAt S W (.slice A len cap) l) (hp : 0 < len) :
    ∃ b off, A = some ⟨b, off, none⟩ ∧ S b ∧ ∀ j x, l[j]? = some x → W.cell? ⟨b, off + j, none⟩ = some (.int .i64 x) := by
  obtain ⟨A', cap', h1, _, _, h4⟩ := h
  simp only [Value.slice.injEq] at h1
  obtain ⟨rfl, rfl, rfl⟩ := h1
  exact h4 hp
theorem OpsAt.at {S : Nat → Prop} {W : World} {A : Option Addr} {len cap : Nat} {l : List Opr} (h : OpsAt S W (.slice A len cap) l) (hp : 0 < len) :
    ∃ b off, A = some ⟨b, off, none⟩ ∧ S b ∧ ∀ j x, l[j]? = some x → ∃ u, Cells7 W b (off + j * 7) x u ∧ IntsAt S W u x.ins := by
  obtain ⟨A', cap', h1, _, _, h4⟩ := h
  simp only [Value.slice.injEq] at h1
  obtain ⟨rfl, rfl, rfl⟩ := h1
  exact h4 hp
theorem Cells7.keep {W W' : World} {b o : Nat} {x : Opr} {u : Value} (h : Cells7 W b o x u) (hb : W'.heap[b]? = W.heap[b]?) : Cells7 W' b o x u := by
  have e : ∀ j, W'.cell? ⟨b, j, none⟩ = W.cell? ⟨b, j, none⟩ := fun j => by simp only [World.cell?, hb]
  exact ⟨(e _).trans h.1, (e _).trans h.2.1, (e _).trans h.2.2.1, (e _).trans h.2.2.2.1, (e _).trans h.2.2.2.2.1, (e _).trans h.2.2.2.2.2.1, (e _).trans h.2.2.2.2.2.2⟩
theorem IntsAt.keep {S T : Nat → Prop} {W W' : World} (hb : ∀ b, S b → W'.heap[b]? = W.heap[b]?) (hST : ∀ b, S b → T b) {v : Value} {l : List Int} (h : IntsAt S W v l) : IntsAt T W' v l := by
  obtain ⟨A, cap, h1, h2, h3, h4⟩ := h
  refine ⟨A, cap, h1, h2, h3, fun hp => ?_⟩
  obtain ⟨b, off, e, hS, hc⟩ := h4 hp
  exact ⟨b, off, e, hST b hS, fun j x hx => by simp only [World.cell?, hb b hS]; exact hc j x hx⟩
theorem OpsAt.keep {S T : Nat → Prop} {W W' : World} (hb : ∀ b, S b → W'.heap[b]? = W.heap[b]?) (hST : ∀ b, S b → T b) {v : Value} {l : List Opr} (h : OpsAt S W v l) : OpsAt T W' v l := by
  obtain ⟨A, cap, h1, h2, h3, h4⟩ := h
  refine ⟨A, cap, h1, h2, h3, fun hp => ?_⟩
  obtain ⟨b, off, e, hS, hc⟩ := h4 hp
  refine ⟨b, off, e, hST b hS, fun j x hx => ?_⟩
  obtain ⟨u, hu, hi⟩ := hc j x hx
  exact ⟨u, hu.keep (hb b hS), hi.keep hb hST⟩
theorem OpsAt.mono {S T : Nat → Prop} {W : World} (hST : ∀ b, S b → T b) {v : Value} {l : List Opr} (h : OpsAt S W v l) : OpsAt T W v l := h.keep (fun _ _ => rfl) hST
theorem IntsAt.mono {S T : Nat → Prop} {W : World} (hST : ∀ b, S b → T b) {v : Value} {l : List Int} (h : IntsAt S W v l) : IntsAt T W v l := h.keep (fun _ _ => rfl) hST
/-- .. in old blocks. -/
abbrev OldO (n : Nat) (W : World) (v : Value) (l : List Opr) : Prop := OpsAt (fun b => b < n) W v l
abbrev OldI (n : Nat) (W : World) (v : Value) (l : List Int) : Prop := IntsAt (fun b => b < n) W v l
theorem OpsAt.low {n : Nat} {A B : World} (h : Below n A B) {v : Value} {l : List Opr} (hI : OldO n A v l) : OldO n B v l := hI.keep (fun b hb => h.block b hb) (fun _ h => h)
theorem OpsAt.on {A B : World} (h : Below A.heap.size A B) {v : Value} {l : List Opr} (hI : OldO A.heap.size A v l) : OldO B.heap.size B v l := (OpsAt.low h hI).mono (fun _ hb => Nat.lt_of_lt_of_le hb h.size)
theorem IntsAt.low {n : Nat} {A B : World} (h : Below n A B) {v : Value} {l : List Int} (hI : OldI n A v l) : OldI n B v l := hI.keep (fun b hb => h.block b hb) (fun _ h => h)
theorem IntsAt.on {A B : World} (h : Below A.heap.size A B) {v : Value} {l : List Int} (hI : OldI A.heap.size A v l) : OldI B.heap.size B v l := (IntsAt.low h hI).mono (fun _ hb => Nat.lt_of_lt_of_le hb h.size)
theorem lowN {B : Nat} {a w : World} (h : Below B a w) (n : Nat) : Below B a (w.drewN n) := ⟨h.os, h.tape, h.output, h.size, h.block⟩
abbrev opV (x : Opr) (u : Value) : Value := .agg #[.int .i64 x.kind, u, .int .i64 x.arg, .int .u32 (x.num : Nat), .int .i64 x.rounds, .int .i64 x.test, .int .u32 (x.lim : Nat)]
theorem lt_of_some {w : World} {k : Nat} {o : Obj} (h : w.heap[k]? = some o) : k < w.heap.size := by
  rcases Nat.lt_or_ge k w.heap.size with h1 | h1
  · exact h1
  · rw [Array.getElem?_eq_none h1] at h; cases h
theorem cell_new (w : World) (cs : Array Value) (t : TypeId) (i : Nat) (v : Value) (h : cs[i]? = some v) : (w.alloc (.cells cs t)).cell? ⟨w.heap.size, i, none⟩ = some v := by
  unfold World.cell?
  rw [heap_alloc_new]
  exact h
theorem box1 {W : World} {b : Nat} {a : Value} {T : TypeId} (h : W.heap[b]? = some (.cells #[a] T)) : W.cell? ⟨b, 0, none⟩ = some a ∧ W.frozen? ⟨b, 0, none⟩ = false := by
  refine ⟨?_, ?_⟩ <;> simp [World.cell?, World.frozen?, h]
theorem stored1 {W : World} {b : Nat} {a : Value} {T : TypeId} (h : W.heap[b]? = some (.cells #[a] T)) (v : Value) : (W.setCell ⟨b, 0, none⟩ v).heap[b]? = some (.cells #[v] T) := by
  simp [World.setCell, Array.getElem?_modify, h]
/-- A Bool, and nothing that lay has turned. -/
def RetB (w : World) (g : Bool) (e : Ending) (W : World) : Prop := e = .returned (.bool g) ∧ Below w.heap.size w W
theorem box7 {W : World} {b : Nat} {a0 a1 a2 a3 a4 a5 a6 : Value} {T : TypeId} (h : W.heap[b]? = some (.cells #[a0, a1, a2, a3, a4, a5, a6] T)) :
    (W.cell? ⟨b, 0, none⟩ = some a0 ∧ W.cell? ⟨b, 1, none⟩ = some a1 ∧ W.cell? ⟨b, 2, none⟩ = some a2 ∧ W.cell? ⟨b, 3, none⟩ = some a3 ∧ W.cell? ⟨b, 4, none⟩ = some a4 ∧ W.cell? ⟨b, 5, none⟩ = some a5 ∧ W.cell? ⟨b, 6, none⟩ = some a6) ∧
    W.frozen? ⟨b, 0, none⟩ = false ∧ W.frozen? ⟨b, 1, none⟩ = false ∧ W.frozen? ⟨b, 2, none⟩ = false ∧ W.frozen? ⟨b, 3, none⟩ = false ∧ W.frozen? ⟨b, 4, none⟩ = false ∧ W.frozen? ⟨b, 5, none⟩ = false ∧ W.frozen? ⟨b, 6, none⟩ = false := by
  refine ⟨⟨?_, ?_, ?_, ?_, ?_, ?_, ?_⟩, ?_, ?_, ?_, ?_, ?_, ?_, ?_⟩ <;> simp [World.cell?, World.frozen?, h]

abbrev RetBo (b : Bool) (w : World) (e : Ending) (w' : World) : Prop := e = .returned (.bool b) ∧ w = w'
abbrev RetT (b : Bool) (w : World) (e : Ending) (w' : World) : Prop := e = .returned (.bool b) ∧ Below w.heap.size w w'

section
variable {H : Type} {enc : TypeId × Value → H} {w : World}

/-- Ints that came in. -/
theorem open_intsP {v : Value} {x : DataW H × List MemPlace} {fuel : Nat} (hf : DataW.trod enc Try.prog w 0 (fun _ => true) true fuel 24 [v] = some x) (hw : ∀ y ∈ x.1.weights Try.prog 24, y ≤ reachBytes) :
    ∃ l : List Int, OldI w.heap.size w v l ∧ (∀ y ∈ l, i64 y) ∧ l.length * 8 ≤ 140737488351232 := by
  have hby : Try.prog.bytesOf 3 = 8 := by kernel_rfl
  have hreach : reachBytes = 140737488351232 := rfl
  rcases open_ints Try.underlying24 Try.underlying3 (by kernel_rfl) hf with ⟨hcs, hx⟩ | ⟨a, len, cap, zs, hcs, _, hl, hm, hz, hx, hcell, hwz⟩
  · obtain rfl : v = .slice none 0 0 := by simpa using hcs
    exact ⟨[], .nil _ _, by simp, by simp⟩
  · obtain rfl : v = .slice (some a) len cap := by simpa using hcs
    subst hx
    simp only [if_true] at hz
    have hlen : (zs.take len).length = len := by simp; omega
    refine ⟨zs.take len, ⟨some a, cap, by rw [hlen], by rw [hlen]; exact hl, (fun h => by cases h), fun hp => ?_⟩, fun y hy => i64_wf (hwz y (List.mem_of_mem_take hy)), ?_⟩
    · rw [hlen] at hp
      obtain ⟨ab, ao, spot⟩ := a
      have hspot : spot = none := by simpa [Addr.add] using World.cell?_spot (hcell 0 (by omega))
      subst hspot
      have h0 := hcell 0 (by omega)
      rw [Addr.add_lit] at h0
      refine ⟨ab, ao, rfl, block_lt_cell h0, fun j x hx => ?_⟩
      have hj : j < (zs.take len).length := (List.getElem?_eq_some_iff.1 hx).1
      have hj' := hcell j (by omega)
      rw [Addr.add_lit] at hj'
      rw [hj']
      have hjz : j < zs.length := by omega
      have e : zs.getD j 0 = x := by
        rw [List.getElem?_take] at hx
        split at hx
        · simp [List.getD, hx]
        · cases hx
      rw [e]
    · have := hw (zs.length * 8) (by
        rw [DataW.weights, Try.underlying24]
        simp only [hby, lits, List.length_map, List.length_take, List.length_drop]
        have : min len zs.length + (zs.length - len) = zs.length := by omega
        rw [this]
        exact List.mem_cons_self)
      rw [hlen]
      omega
theorem weightsAll_in {H : Type} {P : Program} {e : TypeId} {d : DataW H} {x : Nat} : ∀ {ds : List (DataW H)}, d ∈ ds → x ∈ d.weights P e → x ∈ DataW.weightsAll P e ds
  | [], h, _ => by simp at h
  | y :: r, h, hx => by
    rw [DataW.weightsAll]
    rcases List.mem_cons.1 h with rfl | h
    · exact List.mem_append_left _ hx
    · exact List.mem_append_right _ (weightsAll_in h hx)
set_option maxRecDepth 100000 in
theorem open_opr {fuel : Nat} {a : Addr} {cs' : List Value} {y : DataW H × List MemPlace} (hc : w.cells? 0 a 7 = some cs')
    (h : DataW.trod enc Try.prog w 0 (fun _ => true) true fuel 27 cs' = some y) (hw : ∀ z ∈ y.1.weights Try.prog 27, z ≤ reachBytes) :
    ∃ (x : Opr) (u : Value), a.spot = none ∧ Cells7 w a.block a.off x u ∧ OldI w.heap.size w u x.ins ∧ x.wf ∧ a.block < w.heap.size := by
  obtain ⟨xs, n', _, hy, hcl, hxl, hf⟩ := DataW.trod_struct Try.underlying27 h
  obtain ⟨_, hlen, hat⟩ := World.cells?_some hc
  have hy1 := congrArg Prod.fst hy
  clear hy
  match cs', hlen with
  | [q0, q1, q2, q3, q4, q5, q6], _ =>
    match xs, hxl with
    | [y0, y1, y2, y3, y4, y5, y6], _ =>
      have ki : Try.prog.cellsOf 3 = 1 := by kernel_rfl
      have ku : Try.prog.cellsOf 25 = 1 := by kernel_rfl
      have kb : Try.prog.cellsOf 24 = 1 := by kernel_rfl
      have f0 : DataW.trod enc Try.prog w 0 (fun _ => true) true n' 3 [q0] = some y0 := by have := hf 0 _ rfl; simpa [ki] using this
      have f1 : DataW.trod enc Try.prog w 0 (fun _ => true) true n' 24 [q1] = some y1 := by have := hf 1 _ rfl; simpa [kb] using this
      have f2 : DataW.trod enc Try.prog w 0 (fun _ => true) true n' 3 [q2] = some y2 := by have := hf 2 _ rfl; simpa [ki] using this
      have f3 : DataW.trod enc Try.prog w 0 (fun _ => true) true n' 25 [q3] = some y3 := by have := hf 3 _ rfl; simpa [ku] using this
      have f4 : DataW.trod enc Try.prog w 0 (fun _ => true) true n' 3 [q4] = some y4 := by have := hf 4 _ rfl; simpa [ki] using this
      have f5 : DataW.trod enc Try.prog w 0 (fun _ => true) true n' 3 [q5] = some y5 := by have := hf 5 _ rfl; simpa [ki] using this
      have f6 : DataW.trod enc Try.prog w 0 (fun _ => true) true n' 25 [q6] = some y6 := by have := hf 6 _ rfl; simpa [ku] using this
      obtain ⟨z0, e0, -, wf0⟩ := DataW.trod_int Try.underlying3 f0
      obtain ⟨z2, e2, -, wf2⟩ := DataW.trod_int Try.underlying3 f2
      obtain ⟨z3, e3, -, wf3⟩ := DataW.trod_int Try.underlying25 f3
      obtain ⟨z4, e4, -, wf4⟩ := DataW.trod_int Try.underlying3 f4
      obtain ⟨z5, e5, -, wf5⟩ := DataW.trod_int Try.underlying3 f5
      obtain ⟨z6, e6, -, wf6⟩ := DataW.trod_int Try.underlying25 f6
      obtain rfl : q0 = .int .i64 z0 := by simpa using e0
      obtain rfl : q2 = .int .i64 z2 := by simpa using e2
      obtain rfl : q3 = .int .u32 z3 := by simpa using e3
      obtain rfl : q4 = .int .i64 z4 := by simpa using e4
      obtain rfl : q5 = .int .i64 z5 := by simpa using e5
      obtain rfl : q6 = .int .u32 z6 := by simpa using e6
      have hwd : y.1.weights Try.prog 27 = y0.1.weights Try.prog 3 ++ (y1.1.weights Try.prog 24 ++ (y2.1.weights Try.prog 3 ++ (y3.1.weights Try.prog 25 ++ (y4.1.weights Try.prog 3 ++ (y5.1.weights Try.prog 3 ++ (y6.1.weights Try.prog 25 ++ [])))))) := by
        rw [hy1]
        simp only [List.map_cons, List.map_nil]
        rw [DataW.weights, Try.underlying27]
        simp [DataW.weightsEach]
      rw [hwd] at hw
      obtain ⟨ins, hI, hall, hln⟩ := open_intsP f1 (fun z hz => hw z (by simp [hz]))
      have c0 := hat 0 (by omega)
      have c1 := hat 1 (by omega)
      have c2 := hat 2 (by omega)
      have c3 := hat 3 (by omega)
      have c4 := hat 4 (by omega)
      have c5 := hat 5 (by omega)
      have c6 := hat 6 (by omega)
      obtain ⟨ab, ao, sp⟩ := a
      have hsp : sp = none := by
        have h := World.cell?_spot (c0.trans (rfl : _ = some (Value.int .i64 z0)))
        simpa [Addr.add] using h
      subst hsp
      rw [Addr.add_lit] at c0 c1 c2 c3 c4 c5 c6
      have w3 := u32_wf wf3
      have w6 := u32_wf wf6
      have e3' : ((z3.toNat : Nat) : Int) = z3 := by omega
      have e6' : ((z6.toNat : Nat) : Int) = z6 := by omega
      exact ⟨⟨z0, ins, z2, z3.toNat, z4, z5, z6.toNat⟩, q1, rfl, ⟨c0, c1, c2, by rw [e3']; exact c3, c4, c5, by rw [e6']; exact c6⟩, hI, ⟨i64_wf wf0, hall, i64_wf wf2, by show z3.toNat < _; omega, i64_wf wf4, i64_wf wf5, by show z6.toNat < _; omega, hln⟩, block_lt_cell c0⟩
set_option maxRecDepth 100000 in
/-- Operators that came in. -/
theorem open_opsP {v : Value} {x : DataW H × List MemPlace} {fuel : Nat} (hf : DataW.trod enc Try.prog w 0 (fun _ => true) true fuel 28 [v] = some x) (hw : ∀ y ∈ x.1.weights Try.prog 28, y ≤ reachBytes) :
    ∃ l : List Opr, OldO w.heap.size w v l ∧ (∀ y ∈ l, y.wf) ∧ l.length * 72 ≤ 140737488351232 := by
  rcases open_slice Try.underlying28 hf with ⟨hcs, hx⟩ | ⟨a, len, cap, m, n, D, Pl, hcs, hb, hl, hm, hmm, hx, hi⟩
  · obtain rfl : v = .slice none 0 0 := by simpa using hcs
    exact ⟨[], .nil _ _, by simp, by simp⟩
  · obtain rfl : v = .slice (some a) len cap := by simpa using hcs
    obtain rfl : m = cap := by simpa using hmm
    subst hx
    have hC : Try.prog.cellsOf 27 = 7 := by kernel_rfl
    have hBy : Try.prog.bytesOf 27 = 72 := by kernel_rfl
    have hreach : reachBytes = 140737488351232 := rfl
    have hwlen : m * 72 ≤ 140737488351232 := by
      have := hw ((((List.range len).map D).length + ((List.range (m - len)).map fun j => D (len + j)).length) * Try.prog.bytesOf 27) (by rw [DataW.weights, Try.underlying28]; exact List.mem_cons_self)
      simp only [List.length_map, List.length_range, hBy, hreach] at this
      omega
    rw [hC] at hi
    have hone : ∀ i, i < len → ∃ (x : Opr) (u : Value), a.spot = none ∧ Cells7 w a.block (a.off + i * 7) x u ∧ OldI w.heap.size w u x.ins ∧ x.wf ∧ a.block < w.heap.size := by
      intro i hil
      have hDm : D i ∈ (List.range len).map D := List.mem_map.2 ⟨i, List.mem_range.2 hil, rfl⟩
      obtain ⟨cs', hc, ht⟩ := hi i (by omega)
      obtain ⟨s, u, _, h2, h3⟩ := open_opr hc ht (fun z hz => hw z (by
        rw [DataW.weights, Try.underlying28]
        exact List.mem_cons_of_mem _ (List.mem_append_left _ (weightsAll_in hDm hz))))
      obtain ⟨cs0, hc0, ht0⟩ := hi 0 (by omega)
      have hD0 : D 0 ∈ (List.range len).map D := List.mem_map.2 ⟨0, List.mem_range.2 (by omega), rfl⟩
      obtain ⟨_, _, h0, _⟩ := open_opr hc0 ht0 (fun z hz => hw z (by
        rw [DataW.weights, Try.underlying28]
        exact List.mem_cons_of_mem _ (List.mem_append_left _ (weightsAll_in hD0 hz))))
      obtain ⟨ab, ao, sp⟩ := a
      have hsp : sp = none := by simpa [Addr.add] using h0
      subst hsp
      rw [Addr.add_lit] at h2 h3
      exact ⟨s, u, rfl, h2, h3⟩
    obtain ⟨X, hX⟩ := Classical.axiomOfChoice (r := fun (i : Nat) (s : Opr) => i < len → ∃ u : Value, a.spot = none ∧ Cells7 w a.block (a.off + i * 7) s u ∧ OldI w.heap.size w u s.ins ∧ s.wf ∧ a.block < w.heap.size) (fun i => by
      by_cases h : i < len
      · obtain ⟨x, u, hx⟩ := hone i h
        exact ⟨x, fun _ => ⟨u, hx⟩⟩
      · exact ⟨⟨0, [], 0, 0, 0, 0, 0⟩, fun h' => absurd h' h⟩)
    have hget : ∀ (j : Nat) (x : Opr), ((List.range len).map X)[j]? = some x → j < len ∧ X j = x := by
      intro j x hx
      rw [List.getElem?_map] at hx
      by_cases hj : j < len
      · rw [List.getElem?_range hj] at hx
        exact ⟨hj, by simpa using hx⟩
      · rw [List.getElem?_eq_none (by simp; omega)] at hx
        simp at hx
    refine ⟨(List.range len).map X, ⟨some a, m, by simp, by simpa using hl, (fun h => by cases h), fun hp => ?_⟩, fun y hy => ?_, by simp; omega⟩
    · have hp' : 0 < len := by simpa using hp
      obtain ⟨u0, hs, _, _, _, hb⟩ := hX 0 hp'
      obtain ⟨ab, ao, spot⟩ := a
      obtain rfl : spot = none := hs
      refine ⟨ab, ao, rfl, hb, fun j x hx => ?_⟩
      obtain ⟨hj, rfl⟩ := hget j x hx
      obtain ⟨u, _, h1, h2, _⟩ := hX j hj
      exact ⟨u, h1, h2⟩
    · obtain ⟨j, hj, rfl⟩ := List.mem_map.1 hy
      obtain ⟨u, _, _, _, h3, _⟩ := hX j (List.mem_range.1 hj)
      exact h3

set_option maxRecDepth 100000 in
/-- A graph that came in. -/
theorem open_graph {base : Nat} {v : Value} {d : DataW H} {ps : List MemPlace} (hval : Value.okWide Try.prog w .any base 30 v) (h : DataW.Trod enc Try.prog w 0 (fun _ => true) true 30 v d ps) (hw : (d.weights Try.prog 30).all (· ≤ reachBytes) = true) :
    ∃ (l : List Opr) (u : Value), v = .agg #[u] ∧ OldO w.heap.size w u l ∧ (∀ y ∈ l, y.wf) ∧ l.length * 72 ≤ 140737488351232 := by
  have hC : Try.prog.cellsOf 30 = 1 := by kernel_rfl
  have ko : Try.prog.cellsOf 28 = 1 := by kernel_rfl
  have hw' : ∀ x ∈ d.weights Try.prog 30, x ≤ reachBytes := fun x hx => by simpa using List.all_eq_true.1 hw x hx
  obtain ⟨cs, rfl, hsz⟩ := okWide_struct Try.underlying30 hval
  obtain ⟨l⟩ := cs
  match l, hsz.trans hC with
  | [q0], _ =>
    obtain ⟨fuel, hf⟩ := h
    obtain ⟨gs, n2, _, gy, _, glen, gg⟩ := DataW.trod_struct Try.underlying30 hf
    match gs, glen with
    | [g0], _ =>
      have gy1 : d = _ := congrArg Prod.fst gy
      have b0 : DataW.trod enc Try.prog w 0 (fun _ => true) true n2 28 [q0] = some g0 := by have := gg 0 _ rfl; simpa [Value.cells, ko] using this
      have hwg : d.weights Try.prog 30 = g0.1.weights Try.prog 28 ++ [] := by
        rw [gy1]
        simp only [List.map_cons, List.map_nil]
        rw [DataW.weights, Try.underlying30]
        simp [DataW.weightsEach]
      rw [hwg] at hw'
      obtain ⟨ops, hO, hOw, hOl⟩ := open_opsP b0 (fun z hz => hw' z (by simp [hz]))
      exact ⟨ops, q0, rfl, hO, hOw, hOl⟩
end

end Go.Proofs.Ytmfndimejnbgkaa.Graph
