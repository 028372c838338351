/-
  Entries in memory: a slice value that reads as ints, as operators; an entry that came in. An entry that came in: it reads as an entry, whose parts are of a size that can lie in memory.
-/
import Derived.Test.YtffehnojcajhiaaEgA
import Derived.Test.YtffehnojcajhiaaWireKnown
import Derived.Test.YtffehnojcajhiaaWireLit
import Derived.Test.YtffehnojcajhiaaRows
import Derived.Deep.Slices
import Derived.ChangeSame
namespace Go.Proofs.Ytffehnojcajhiaa.Wire.Entry
open Go Go.RowKit Go.ChangeShapes Go.WideShapes Go.Deep Go.Proofs.Ytffehnojcajhiaa.Law

/-- The slice value reads as these ints; its block is in S. -/
def IntsAt (S : Nat → Prop) (W : World) (v : Value) (l : List Int) : Prop :=
  ∃ A cap, v = .slice A l.length cap ∧ l.length ≤ cap ∧ (A = none → cap = 0) ∧ (0 < l.length → ∃ b off, A = some ⟨b, off, none⟩ ∧ S b ∧ ∀ j x, l[j]? = some x → W.cell? ⟨b, off + j, none⟩ = some (.int .i64 x))

/-- The seven cells of an operator. -/
def Cells7 (W : World) (b o : Nat) (x : Opr) (u : Value) : Prop :=
  W.cell? ⟨b, o, none⟩ = some (.int .i64 x.kind) ∧ W.cell? ⟨b, o + 1, none⟩ = some u ∧ W.cell? ⟨b, o + 2, none⟩ = some (.int .i64 x.arg) ∧ W.cell? ⟨b, o + 3, none⟩ = some (.int .u32 (x.num : Nat)) ∧
  W.cell? ⟨b, o + 4, none⟩ = some (.int .i64 x.rounds) ∧ W.cell? ⟨b, o + 5, none⟩ = some (.int .i64 x.test) ∧ W.cell? ⟨b, o + 6, none⟩ = some (.int .u32 (x.lim : Nat))

/-- The slice value reads as these operators; all blocks are in S. -/
def OpsAt (S : Nat → Prop) (W : World) (v : Value) (l : List Opr) : Prop :=
  ∃ A cap, v = .slice A l.length cap ∧ l.length ≤ cap ∧ (A = none → cap = 0) ∧ (0 < l.length → ∃ b off, A = some ⟨b, off, none⟩ ∧ S b ∧ ∀ j x, l[j]? = some x → ∃ u, Cells7 W b (off + j * 7) x u ∧ IntsAt S W u x.ins)

theorem IntsAt.nil (S : Nat → Prop) (W : World) : IntsAt S W (.slice none 0 0) [] := ⟨none, 0, rfl, Nat.le_refl _, fun _ => rfl, fun h => absurd h (Nat.lt_irrefl _)⟩
theorem OpsAt.nil (S : Nat → Prop) (W : World) : OpsAt S W (.slice none 0 0) [] := ⟨none, 0, rfl, Nat.le_refl _, fun _ => rfl, fun h => absurd h (Nat.lt_irrefl _)⟩
theorem IntsAt.form {S : Nat → Prop} {W : World} {v : Value} {l : List Int} (h : IntsAt S W v l) : ∃ A cap, v = .slice A l.length cap ∧ l.length ≤ cap := by
  obtain ⟨A, cap, h1, h2, _⟩ := h; exact ⟨A, cap, h1, h2⟩
theorem OpsAt.form {S : Nat → Prop} {W : World} {v : Value} {l : List Opr} (h : OpsAt S W v l) : ∃ A cap, v = .slice A l.length cap ∧ l.length ≤ cap := by
  obtain ⟨A, cap, h1, h2, _⟩ := h; exact ⟨A, cap, h1, h2⟩
theorem IntsAt.at {S : Nat → Prop} {W : World} {A : Option Addr} {len cap : Nat} {l : List Int} (h : IntsAt S W (.slice A len cap) l) (hp : 0 < len) :
    ∃ b off, A = some ⟨b, off, none⟩ ∧ S b ∧ ∀ j x, l[j]? = some x → W.cell? ⟨b, off + j, none⟩ = some (.int .i64 x) := by
  obtain ⟨A', cap', h1, _, _, h4⟩ := h
  simp only [Value.slice.injEq] at h1
  obtain ⟨rfl, rfl, rfl⟩ := h1
  exact h4 hp
theorem OpsAt.at {S : Nat → Prop} {W : World} {A : Option Addr} {len cap : Nat} {l : List Opr} (h : OpsAt S W (.slice A len cap) l) (hp : 0 < len) :
    ∃ b off, A = some ⟨b, off, none⟩ ∧ S b ∧ ∀ j x, l[j]? = some x → ∃ u, Cells7 W b (off + j * 7) x u ∧ IntsAt S W u x.ins := by
  obtain ⟨A', cap', h1, _, _, h4⟩ := h
  simp only [Value.slice.injEq] at h1
  obtain ⟨rfl, rfl, rfl⟩ := h1
  exact h4 hp

theorem Cells7.keep {W W' : World} {b o : Nat} {x : Opr} {u : Value} (h : Cells7 W b o x u) (hb : W'.heap[b]? = W.heap[b]?) : Cells7 W' b o x u := by
  have e : ∀ j, W'.cell? ⟨b, j, none⟩ = W.cell? ⟨b, j, none⟩ := fun j => by simp only [World.cell?, hb]
  exact ⟨(e _).trans h.1, (e _).trans h.2.1, (e _).trans h.2.2.1, (e _).trans h.2.2.2.1, (e _).trans h.2.2.2.2.1, (e _).trans h.2.2.2.2.2.1, (e _).trans h.2.2.2.2.2.2⟩
theorem IntsAt.keep {S T : Nat → Prop} {W W' : World} (hb : ∀ b, S b → W'.heap[b]? = W.heap[b]?) (hST : ∀ b, S b → T b) {v : Value} {l : List Int} (h : IntsAt S W v l) : IntsAt T W' v l := by
  obtain ⟨A, cap, h1, h2, h3, h4⟩ := h
  refine ⟨A, cap, h1, h2, h3, fun hp => ?_⟩
  obtain ⟨b, off, e, hS, hc⟩ := h4 hp
  exact ⟨b, off, e, hST b hS, fun j x hx => by simp only [World.cell?, hb b hS]; exact hc j x hx⟩
theorem OpsAt.keep {S T : Nat → Prop} {W W' : World} (hb : ∀ b, S b → W'.heap[b]? = W.heap[b]?) (hST : ∀ b, S b → T b) {v : Value} {l : List Opr} (h : OpsAt S W v l) : OpsAt T W' v l := by
  obtain ⟨A, cap, h1, h2, h3, h4⟩ := h
  refine ⟨A, cap, h1, h2, h3, fun hp => ?_⟩
  obtain ⟨b, off, e, hS, hc⟩ := h4 hp
  refine ⟨b, off, e, hST b hS, fun j x hx => ?_⟩
  obtain ⟨u, hu, hi⟩ := hc j x hx
  exact ⟨u, hu.keep (hb b hS), hi.keep hb hST⟩
theorem OpsAt.mono {S T : Nat → Prop} {W : World} (hST : ∀ b, S b → T b) {v : Value} {l : List Opr} (h : OpsAt S W v l) : OpsAt T W v l := h.keep (fun _ _ => rfl) hST
theorem IntsAt.mono {S T : Nat → Prop} {W : World} (hST : ∀ b, S b → T b) {v : Value} {l : List Int} (h : IntsAt S W v l) : IntsAt T W v l := h.keep (fun _ _ => rfl) hST

/-- .. in old blocks. -/
abbrev OldO (n : Nat) (W : World) (v : Value) (l : List Opr) : Prop := OpsAt (fun b => b < n) W v l
abbrev OldI (n : Nat) (W : World) (v : Value) (l : List Int) : Prop := IntsAt (fun b => b < n) W v l
theorem OpsAt.low {n : Nat} {A B : World} (h : Below n A B) {v : Value} {l : List Opr} (hI : OldO n A v l) : OldO n B v l := hI.keep (fun b hb => h.block b hb) (fun _ h => h)
theorem OpsAt.on {A B : World} (h : Below A.heap.size A B) {v : Value} {l : List Opr} (hI : OldO A.heap.size A v l) : OldO B.heap.size B v l := (OpsAt.low h hI).mono (fun _ hb => Nat.lt_of_lt_of_le hb h.size)
theorem IntsAt.low {n : Nat} {A B : World} (h : Below n A B) {v : Value} {l : List Int} (hI : OldI n A v l) : OldI n B v l := hI.keep (fun b hb => h.block b hb) (fun _ h => h)
theorem IntsAt.on {A B : World} (h : Below A.heap.size A B) {v : Value} {l : List Int} (hI : OldI A.heap.size A v l) : OldI B.heap.size B v l := (IntsAt.low h hI).mono (fun _ hb => Nat.lt_of_lt_of_le hb h.size)

theorem lowN {B : Nat} {a w : World} (h : Below B a w) (n : Nat) : Below B a (w.drewN n) := ⟨h.os, h.tape, h.output, h.size, h.block⟩

/-- Values. -/
abbrev recV (r : Rec) : Value := .agg #[.int .i64 r.p, .int .i64 r.q, .int .i64 r.a, .string r.key, .int .u32 (r.val : Nat)]
abbrev opV (x : Opr) (u : Value) : Value := .agg #[.int .i64 x.kind, u, .int .i64 x.arg, .int .u32 (x.num : Nat), .int .i64 x.rounds, .int .i64 x.test, .int .u32 (x.lim : Nat)]
abbrev entV (e : Ent) (u : Value) : Value := .agg #[.int .i64 e.kind, .int .i64 e.r.p, .int .i64 e.r.q, .int .i64 e.r.a, .string e.r.key, .int .u32 (e.r.val : Nat), u, .int .i64 e.n]

/-- An entry's own block. -/
def EBox (W : World) (b : Nat) (e : Ent) (u : Value) : Prop :=
  W.heap[b]? = some (.cells #[.int .i64 e.kind, .int .i64 e.r.p, .int .i64 e.r.q, .int .i64 e.r.a, .string e.r.key, .int .u32 (e.r.val : Nat), u, .int .i64 e.n] 29)
theorem EBox.new (w : World) (e : Ent) (u : Value) : EBox (w.alloc (.cells #[.int .i64 e.kind, .int .i64 e.r.p, .int .i64 e.r.q, .int .i64 e.r.a, .string e.r.key, .int .u32 (e.r.val : Nat), u, .int .i64 e.n] 29)) w.heap.size e u := heap_alloc_new w _
theorem EBox.low {W W' : World} {b : Nat} {e : Ent} {u : Value} (h : EBox W b e u) (hB : Below W.heap.size W W') : EBox W' b e u := (hB.block b (lt_of_some h)).trans h
theorem EBox.drewN {W : World} {b : Nat} {e : Ent} {u : Value} (h : EBox W b e u) (n : Nat) : EBox (W.drewN n) b e u := h
theorem EBox.cells {W : World} {b : Nat} {e : Ent} {u : Value} (h : EBox W b e u) :
    W.cell? ⟨b, 0, none⟩ = some (.int .i64 e.kind) ∧ W.cell? ⟨b, 1, none⟩ = some (.int .i64 e.r.p) ∧ W.cell? ⟨b, 2, none⟩ = some (.int .i64 e.r.q) ∧ W.cell? ⟨b, 3, none⟩ = some (.int .i64 e.r.a) ∧ W.cell? ⟨b, 4, none⟩ = some (.string e.r.key) ∧
      W.cell? ⟨b, 5, none⟩ = some (.int .u32 (e.r.val : Nat)) ∧ W.cell? ⟨b, 6, none⟩ = some u ∧ W.cell? ⟨b, 7, none⟩ = some (.int .i64 e.n) := by
  unfold EBox at h
  refine ⟨?_, ?_, ?_, ?_, ?_, ?_, ?_, ?_⟩ <;> simp [World.cell?, h]
theorem EBox.free {W : World} {b : Nat} {e : Ent} {u : Value} (h : EBox W b e u) (j : Nat) : W.frozen? ⟨b, j, none⟩ = false := by
  unfold EBox at h
  simp [World.frozen?, h]

section
variable {H : Type} {enc : TypeId × Value → H} {w : World}

/-- Ints that came in. -/
theorem open_intsP {v : Value} {x : DataW H × List MemPlace} {fuel : Nat} (hf : DataW.trod enc Try.prog w 0 (fun _ => true) true fuel 45 [v] = some x) (hw : ∀ y ∈ x.1.weights Try.prog 45, y ≤ reachBytes) :
    ∃ l : List Int, OldI w.heap.size w v l ∧ (∀ y ∈ l, i64 y) ∧ l.length * 8 ≤ 140737488351232 := by
  have hby : Try.prog.bytesOf 3 = 8 := by kernel_rfl
  have hreach : reachBytes = 140737488351232 := rfl
  rcases open_ints Try.underlying45 Try.underlying3 (by kernel_rfl) hf with ⟨hcs, hx⟩ | ⟨a, len, cap, zs, hcs, _, hl, hm, hz, hx, hcell, hwz⟩
  · obtain rfl : v = .slice none 0 0 := by simpa using hcs
    exact ⟨[], .nil _ _, by simp, by simp⟩
  · obtain rfl : v = .slice (some a) len cap := by simpa using hcs
    subst hx
    simp only [if_true] at hz
    have hlen : (zs.take len).length = len := by simp; omega
    refine ⟨zs.take len, ⟨some a, cap, by rw [hlen], by rw [hlen]; exact hl, (fun h => by cases h), fun hp => ?_⟩, fun y hy => i64_wf (hwz y (List.mem_of_mem_take hy)), ?_⟩
    · rw [hlen] at hp
      obtain ⟨ab, ao, spot⟩ := a
      have hspot : spot = none := by simpa [Addr.add] using World.cell?_spot (hcell 0 (by omega))
      subst hspot
      have h0 := hcell 0 (by omega)
      rw [Addr.add_lit] at h0
      refine ⟨ab, ao, rfl, block_lt_cell h0, fun j x hx => ?_⟩
      have hj : j < (zs.take len).length := (List.getElem?_eq_some_iff.1 hx).1
      have hj' := hcell j (by omega)
      rw [Addr.add_lit] at hj'
      rw [hj']
      have hjz : j < zs.length := by omega
      have e : zs.getD j 0 = x := by
        rw [List.getElem?_take] at hx
        split at hx
        · simp [List.getD, hx]
        · cases hx
      rw [e]
    · have := hw (zs.length * 8) (by
        rw [DataW.weights, Try.underlying45]
        simp only [hby, lits, List.length_map, List.length_take, List.length_drop]
        have : min len zs.length + (zs.length - len) = zs.length := by omega
        rw [this]
        exact List.mem_cons_self)
      rw [hlen]
      omega
end

end Go.Proofs.Ytffehnojcajhiaa.Wire.Entry

namespace Go.Proofs.Ytffehnojcajhiaa.Wire.Entry
open Go Go.RowKit Go.ChangeShapes Go.WideShapes Go.Deep Go.Proofs.Ytffehnojcajhiaa.Law

theorem weightsAll_in {H : Type} {P : Program} {e : TypeId} {d : DataW H} {x : Nat} : ∀ {ds : List (DataW H)}, d ∈ ds → x ∈ d.weights P e → x ∈ DataW.weightsAll P e ds
  | [], h, _ => by simp at h
  | y :: r, h, hx => by
    rw [DataW.weightsAll]
    rcases List.mem_cons.1 h with rfl | h
    · exact List.mem_append_left _ hx
    · exact List.mem_append_right _ (weightsAll_in h hx)

section
variable {H : Type} {enc : TypeId × Value → H} {w : World}

set_option maxRecDepth 100000 in
theorem open_opr {fuel : Nat} {a : Addr} {cs' : List Value} {y : DataW H × List MemPlace} (hc : w.cells? 0 a 7 = some cs')
    (h : DataW.trod enc Try.prog w 0 (fun _ => true) true fuel 47 cs' = some y) (hw : ∀ z ∈ y.1.weights Try.prog 47, z ≤ reachBytes) :
    ∃ (x : Opr) (u : Value), a.spot = none ∧ Cells7 w a.block a.off x u ∧ OldI w.heap.size w u x.ins ∧ x.wf ∧ a.block < w.heap.size := by
  obtain ⟨xs, n', _, hy, hcl, hxl, hf⟩ := DataW.trod_struct Try.underlying47 h
  obtain ⟨_, hlen, hat⟩ := World.cells?_some hc
  have hy1 := congrArg Prod.fst hy
  clear hy
  match cs', hlen with
  | [q0, q1, q2, q3, q4, q5, q6], _ =>
    match xs, hxl with
    | [y0, y1, y2, y3, y4, y5, y6], _ =>
      have ki : Try.prog.cellsOf 3 = 1 := by kernel_rfl
      have ku : Try.prog.cellsOf 22 = 1 := by kernel_rfl
      have kb : Try.prog.cellsOf 45 = 1 := by kernel_rfl
      have f0 : DataW.trod enc Try.prog w 0 (fun _ => true) true n' 3 [q0] = some y0 := by have := hf 0 _ rfl; simpa [ki] using this
      have f1 : DataW.trod enc Try.prog w 0 (fun _ => true) true n' 45 [q1] = some y1 := by have := hf 1 _ rfl; simpa [kb] using this
      have f2 : DataW.trod enc Try.prog w 0 (fun _ => true) true n' 3 [q2] = some y2 := by have := hf 2 _ rfl; simpa [ki] using this
      have f3 : DataW.trod enc Try.prog w 0 (fun _ => true) true n' 22 [q3] = some y3 := by have := hf 3 _ rfl; simpa [ku] using this
      have f4 : DataW.trod enc Try.prog w 0 (fun _ => true) true n' 3 [q4] = some y4 := by have := hf 4 _ rfl; simpa [ki] using this
      have f5 : DataW.trod enc Try.prog w 0 (fun _ => true) true n' 3 [q5] = some y5 := by have := hf 5 _ rfl; simpa [ki] using this
      have f6 : DataW.trod enc Try.prog w 0 (fun _ => true) true n' 22 [q6] = some y6 := by have := hf 6 _ rfl; simpa [ku] using this
      obtain ⟨z0, e0, -, wf0⟩ := DataW.trod_int Try.underlying3 f0
      obtain ⟨z2, e2, -, wf2⟩ := DataW.trod_int Try.underlying3 f2
      obtain ⟨z3, e3, -, wf3⟩ := DataW.trod_int Try.underlying22 f3
      obtain ⟨z4, e4, -, wf4⟩ := DataW.trod_int Try.underlying3 f4
      obtain ⟨z5, e5, -, wf5⟩ := DataW.trod_int Try.underlying3 f5
      obtain ⟨z6, e6, -, wf6⟩ := DataW.trod_int Try.underlying22 f6
      obtain rfl : q0 = .int .i64 z0 := by simpa using e0
      obtain rfl : q2 = .int .i64 z2 := by simpa using e2
      obtain rfl : q3 = .int .u32 z3 := by simpa using e3
      obtain rfl : q4 = .int .i64 z4 := by simpa using e4
      obtain rfl : q5 = .int .i64 z5 := by simpa using e5
      obtain rfl : q6 = .int .u32 z6 := by simpa using e6
      have hwd : y.1.weights Try.prog 47 = y0.1.weights Try.prog 3 ++ (y1.1.weights Try.prog 45 ++ (y2.1.weights Try.prog 3 ++ (y3.1.weights Try.prog 22 ++ (y4.1.weights Try.prog 3 ++ (y5.1.weights Try.prog 3 ++ (y6.1.weights Try.prog 22 ++ [])))))) := by
        rw [hy1]
        simp only [List.map_cons, List.map_nil]
        rw [DataW.weights, Try.underlying47]
        simp [DataW.weightsEach]
      rw [hwd] at hw
      obtain ⟨ins, hI, hall, hln⟩ := open_intsP f1 (fun z hz => hw z (by simp [hz]))
      have c0 := hat 0 (by omega)
      have c1 := hat 1 (by omega)
      have c2 := hat 2 (by omega)
      have c3 := hat 3 (by omega)
      have c4 := hat 4 (by omega)
      have c5 := hat 5 (by omega)
      have c6 := hat 6 (by omega)
      obtain ⟨ab, ao, sp⟩ := a
      have hsp : sp = none := by
        have h := World.cell?_spot (c0.trans (rfl : _ = some (Value.int .i64 z0)))
        simpa [Addr.add] using h
      subst hsp
      rw [Addr.add_lit] at c0 c1 c2 c3 c4 c5 c6
      have w3 := u32_wf wf3
      have w6 := u32_wf wf6
      have e3' : ((z3.toNat : Nat) : Int) = z3 := by omega
      have e6' : ((z6.toNat : Nat) : Int) = z6 := by omega
      exact ⟨⟨z0, ins, z2, z3.toNat, z4, z5, z6.toNat⟩, q1, rfl, ⟨c0, c1, c2, by rw [e3']; exact c3, c4, c5, by rw [e6']; exact c6⟩, hI, ⟨i64_wf wf0, hall, i64_wf wf2, by show z3.toNat < _; omega, i64_wf wf4, i64_wf wf5, by show z6.toNat < _; omega, hln⟩, block_lt_cell c0⟩

set_option maxRecDepth 100000 in
/-- Operators that came in. -/
theorem open_opsP {v : Value} {x : DataW H × List MemPlace} {fuel : Nat} (hf : DataW.trod enc Try.prog w 0 (fun _ => true) true fuel 25 [v] = some x) (hw : ∀ y ∈ x.1.weights Try.prog 25, y ≤ reachBytes) :
    ∃ l : List Opr, OldO w.heap.size w v l ∧ (∀ y ∈ l, y.wf) ∧ l.length * 72 ≤ 140737488351232 := by
  rcases open_slice Try.underlying25 hf with ⟨hcs, hx⟩ | ⟨a, len, cap, m, n, D, Pl, hcs, hb, hl, hm, hmm, hx, hi⟩
  · obtain rfl : v = .slice none 0 0 := by simpa using hcs
    exact ⟨[], .nil _ _, by simp, by simp⟩
  · obtain rfl : v = .slice (some a) len cap := by simpa using hcs
    obtain rfl : m = cap := by simpa using hmm
    subst hx
    have hC : Try.prog.cellsOf 47 = 7 := by kernel_rfl
    have hBy : Try.prog.bytesOf 47 = 72 := by kernel_rfl
    have hreach : reachBytes = 140737488351232 := rfl
    have hwlen : m * 72 ≤ 140737488351232 := by
      have := hw ((((List.range len).map D).length + ((List.range (m - len)).map fun j => D (len + j)).length) * Try.prog.bytesOf 47) (by rw [DataW.weights, Try.underlying25]; exact List.mem_cons_self)
      simp only [List.length_map, List.length_range, hBy, hreach] at this
      omega
    rw [hC] at hi
    have hone : ∀ i, i < len → ∃ (x : Opr) (u : Value), a.spot = none ∧ Cells7 w a.block (a.off + i * 7) x u ∧ OldI w.heap.size w u x.ins ∧ x.wf ∧ a.block < w.heap.size := by
      intro i hil
      have hDm : D i ∈ (List.range len).map D := List.mem_map.2 ⟨i, List.mem_range.2 hil, rfl⟩
      obtain ⟨cs', hc, ht⟩ := hi i (by omega)
      obtain ⟨s, u, _, h2, h3⟩ := open_opr hc ht (fun z hz => hw z (by
        rw [DataW.weights, Try.underlying25]
        exact List.mem_cons_of_mem _ (List.mem_append_left _ (weightsAll_in hDm hz))))
      obtain ⟨cs0, hc0, ht0⟩ := hi 0 (by omega)
      have hD0 : D 0 ∈ (List.range len).map D := List.mem_map.2 ⟨0, List.mem_range.2 (by omega), rfl⟩
      obtain ⟨_, _, h0, _⟩ := open_opr hc0 ht0 (fun z hz => hw z (by
        rw [DataW.weights, Try.underlying25]
        exact List.mem_cons_of_mem _ (List.mem_append_left _ (weightsAll_in hD0 hz))))
      obtain ⟨ab, ao, sp⟩ := a
      have hsp : sp = none := by simpa [Addr.add] using h0
      subst hsp
      rw [Addr.add_lit] at h2 h3
      exact ⟨s, u, rfl, h2, h3⟩
    obtain ⟨X, hX⟩ := Classical.axiomOfChoice (r := fun (i : Nat) (s : Opr) => i < len → ∃ u : Value, a.spot = none ∧ Cells7 w a.block (a.off + i * 7) s u ∧ OldI w.heap.size w u s.ins ∧ s.wf ∧ a.block < w.heap.size) (fun i => by
      by_cases h : i < len
      · obtain ⟨x, u, hx⟩ := hone i h
        exact ⟨x, fun _ => ⟨u, hx⟩⟩
      · exact ⟨⟨0, [], 0, 0, 0, 0, 0⟩, fun h' => absurd h' h⟩)
    have hget : ∀ (j : Nat) (x : Opr), ((List.range len).map X)[j]? = some x → j < len ∧ X j = x := by
      intro j x hx
      rw [List.getElem?_map] at hx
      by_cases hj : j < len
      · rw [List.getElem?_range hj] at hx
        exact ⟨hj, by simpa using hx⟩
      · rw [List.getElem?_eq_none (by simp; omega)] at hx
        simp at hx
    refine ⟨(List.range len).map X, ⟨some a, m, by simp, by simpa using hl, (fun h => by cases h), fun hp => ?_⟩, fun y hy => ?_, by simp; omega⟩
    · have hp' : 0 < len := by simpa using hp
      obtain ⟨u0, hs, _, _, _, hb⟩ := hX 0 hp'
      obtain ⟨ab, ao, spot⟩ := a
      obtain rfl : spot = none := hs
      refine ⟨ab, ao, rfl, hb, fun j x hx => ?_⟩
      obtain ⟨hj, rfl⟩ := hget j x hx
      obtain ⟨u, _, h1, h2, _⟩ := hX j hj
      exact ⟨u, h1, h2⟩
    · obtain ⟨j, hj, rfl⟩ := List.mem_map.1 hy
      obtain ⟨u, _, _, _, h3, _⟩ := hX j (List.mem_range.1 hj)
      exact h3

set_option maxRecDepth 100000 in
/-- An entry that came in. -/
theorem open_ent {base : Nat} {v : Value} {d : DataW H} {ps : List MemPlace} (hval : Value.okWide Try.prog w .any base 29 v) (h : DataW.Trod enc Try.prog w 0 (fun _ => true) true 29 v d ps) (hw : (d.weights Try.prog 29).all (· ≤ reachBytes) = true) :
    ∃ (e : Ent) (u : Value), v = entV e u ∧ OldO w.heap.size w u e.ops ∧ e.wf := by
  have hC : Try.prog.cellsOf 29 = 8 := by kernel_rfl
  have ki : Try.prog.cellsOf 3 = 1 := by kernel_rfl
  have ku : Try.prog.cellsOf 22 = 1 := by kernel_rfl
  have kt : Try.prog.cellsOf 9 = 1 := by kernel_rfl
  have kr : Try.prog.cellsOf 24 = 5 := by kernel_rfl
  have kg : Try.prog.cellsOf 27 = 1 := by kernel_rfl
  have ko : Try.prog.cellsOf 25 = 1 := by kernel_rfl
  have hreach : reachBytes = 140737488351232 := rfl
  have hw' : ∀ x ∈ d.weights Try.prog 29, x ≤ reachBytes := fun x hx => by simpa using List.all_eq_true.1 hw x hx
  obtain ⟨cs, rfl, hsz⟩ := okWide_struct Try.underlying29 hval
  obtain ⟨l⟩ := cs
  match l, hsz.trans hC with
  | [q0, q1, q2, q3, q4, q5, q6, q7], _ =>
    obtain ⟨fuel, hf⟩ := h
    obtain ⟨xs, n', _, hy, _, hlen, hg⟩ := DataW.trod_struct Try.underlying29 hf
    match xs, hlen with
    | [y0, y1, y2, y3], _ =>
      have hy1 : d = _ := congrArg Prod.fst hy
      clear hy
      have f0 : DataW.trod enc Try.prog w 0 (fun _ => true) true n' 3 [q0] = some y0 := by have := hg 0 _ rfl; simpa [Value.cells, ki] using this
      have f1 : DataW.trod enc Try.prog w 0 (fun _ => true) true n' 24 [q1, q2, q3, q4, q5] = some y1 := by have := hg 1 _ rfl; simpa [Value.cells, kr] using this
      have f2 : DataW.trod enc Try.prog w 0 (fun _ => true) true n' 27 [q6] = some y2 := by have := hg 2 _ rfl; simpa [Value.cells, kg] using this
      have f3 : DataW.trod enc Try.prog w 0 (fun _ => true) true n' 3 [q7] = some y3 := by have := hg 3 _ rfl; simpa [Value.cells, ki] using this
      obtain ⟨rs, n1, _, ry, _, rlen, rg⟩ := DataW.trod_struct Try.underlying24 f1
      obtain ⟨gs, n2, _, gy, _, glen, gg⟩ := DataW.trod_struct Try.underlying27 f2
      have ry1 := congrArg Prod.fst ry
      have gy1 := congrArg Prod.fst gy
      clear ry gy
      match rs, rlen, gs, glen with
      | [r0, r1, r2, r3, r4], _, [g0], _ =>
        have a0 : DataW.trod enc Try.prog w 0 (fun _ => true) true n1 3 [q1] = some r0 := by have := rg 0 _ rfl; simpa [ki] using this
        have a1 : DataW.trod enc Try.prog w 0 (fun _ => true) true n1 3 [q2] = some r1 := by have := rg 1 _ rfl; simpa [ki] using this
        have a2 : DataW.trod enc Try.prog w 0 (fun _ => true) true n1 3 [q3] = some r2 := by have := rg 2 _ rfl; simpa [ki] using this
        have a3 : DataW.trod enc Try.prog w 0 (fun _ => true) true n1 9 [q4] = some r3 := by have := rg 3 _ rfl; simpa [kt] using this
        have a4 : DataW.trod enc Try.prog w 0 (fun _ => true) true n1 22 [q5] = some r4 := by have := rg 4 _ rfl; simpa [ku] using this
        have b0 : DataW.trod enc Try.prog w 0 (fun _ => true) true n2 25 [q6] = some g0 := by have := gg 0 _ rfl; simpa [ko] using this
        obtain ⟨z0, e0, -, wf0⟩ := DataW.trod_int Try.underlying3 f0
        obtain ⟨z1, e1, -, wf1⟩ := DataW.trod_int Try.underlying3 a0
        obtain ⟨z2, e2, -, wf2⟩ := DataW.trod_int Try.underlying3 a1
        obtain ⟨z3, e3, -, wf3⟩ := DataW.trod_int Try.underlying3 a2
        obtain ⟨s4, e4, hs4, -⟩ := DataW.trod_string Try.underlying9 a3
        obtain ⟨z5, e5, -, wf5⟩ := DataW.trod_int Try.underlying22 a4
        obtain ⟨z7, e7, -, wf7⟩ := DataW.trod_int Try.underlying3 f3
        obtain rfl : q0 = .int .i64 z0 := by simpa using e0
        obtain rfl : q1 = .int .i64 z1 := by simpa using e1
        obtain rfl : q2 = .int .i64 z2 := by simpa using e2
        obtain rfl : q3 = .int .i64 z3 := by simpa using e3
        obtain rfl : q4 = .string s4 := by simpa using e4
        obtain rfl : q5 = .int .u32 z5 := by simpa using e5
        obtain rfl : q7 = .int .i64 z7 := by simpa using e7
        have w5 := u32_wf wf5
        have e5' : ((z5.toNat : Nat) : Int) = z5 := by omega
        have hwd : d.weights Try.prog 29 = y0.1.weights Try.prog 3 ++ (y1.1.weights Try.prog 24 ++ (y2.1.weights Try.prog 27 ++ (y3.1.weights Try.prog 3 ++ []))) := by
          rw [hy1]
          simp only [List.map_cons, List.map_nil]
          rw [DataW.weights, Try.underlying29]
          simp [DataW.weightsEach]
        have hwr : y1.1.weights Try.prog 24 = r0.1.weights Try.prog 3 ++ (r1.1.weights Try.prog 3 ++ (r2.1.weights Try.prog 3 ++ (r3.1.weights Try.prog 9 ++ (r4.1.weights Try.prog 22 ++ [])))) := by
          rw [ry1]
          simp only [List.map_cons, List.map_nil]
          rw [DataW.weights, Try.underlying24]
          simp [DataW.weightsEach]
        have hwg : y2.1.weights Try.prog 27 = g0.1.weights Try.prog 25 ++ [] := by
          rw [gy1]
          simp only [List.map_cons, List.map_nil]
          rw [DataW.weights, Try.underlying27]
          simp [DataW.weightsEach]
        rw [hwd, hwr, hwg] at hw'
        have hk : s4.size ≤ 140737488351232 := by
          have := hw' s4.data.toList.length (by rw [hs4]; simp [DataW.weights])
          rw [hreach, Array.length_toList] at this
          exact this
        obtain ⟨ops, hO, hOw, hOl⟩ := open_opsP b0 (fun z hz => hw' z (by simp [hz]))
        exact ⟨⟨z0, ⟨z1, z2, z3, s4, z5.toNat⟩, ops, z7⟩, q6, by simp only [entV]; rw [e5'], hO, i64_wf wf0, ⟨i64_wf wf1, i64_wf wf2, i64_wf wf3, hk, by show z5.toNat < _; omega⟩, hOw, hOl, i64_wf wf7⟩
end

end Go.Proofs.Ytffehnojcajhiaa.Wire.Entry
