/-
  Pairs, records and states in memory.
-/
import Derived.Test.YtmfndimejnbgkaaModelMath
import Derived.Test.YtmfndimejnbgkaaTwoAt
import Derived.Test.YtmfndimejnbgkaaMapV
import Derived.Test.YtmfndimejnbgkaaGraphAt
import Derived.Test.YtmfndimejnbgkaaFoldAll
namespace Go.Proofs.Ytmfndimejnbgkaa.Model
open Go Go.RowKit Go.Proofs.Ytmfndimejnbgkaa.Law Go.Proofs.Ytmfndimejnbgkaa.Graph Go.Proofs.Ytmfndimejnbgkaa.Fold

abbrev pk (p : Pr) : Value := .string p.key
abbrev pv (p : Pr) : Value := .int .u32 ((p.val : Nat) : Int)
theorem pk_one (p : Pr) : (pk p).oneCell' = true := rfl
theorem pv_one (p : Pr) : (pv p).oneCell' = true := rfl
/-- A slice value that reads as pairs, in old blocks. -/
abbrev OldP (n : Nat) (W : World) (v : Value) (l : List Pr) : Prop := OldT pk pv n W v l
/-- Pairs in a block of the call's own. -/
abbrev OwnP (W : World) (base : Nat) (v : Value) (l : List Pr) : Prop := OwnTwo pk pv 47 W base v l
/-- Keys and values are such as lie in memory. -/
def wfP (l : List Pr) : Prop := ∀ p ∈ l, Short p.key ∧ p.val < 4294967296
theorem wfP.nil : wfP [] := fun _ h => by cases h
theorem wfP.append {a b : List Pr} (ha : wfP a) (hb : wfP b) : wfP (a ++ b) := fun p hp => (List.mem_append.1 hp).elim (ha p) (hb p)
theorem wfP.of_mem {a b : List Pr} (ha : wfP a) (h : ∀ p ∈ b, p ∈ a) : wfP b := fun p hp => ha p (h p hp)
def wfR (l : List Rc) : Prop := ∀ r ∈ l, Short r.key ∧ r.val < 4294967296 ∧ i64 r.producer ∧ i64 r.seq ∧ i64 r.part
/-- The five cells of a record. -/
def Cells5 (W : World) (b o : Nat) (r : Rc) : Prop :=
  W.cell? ⟨b, o, none⟩ = some (.int .i64 r.producer) ∧ W.cell? ⟨b, o + 1, none⟩ = some (.int .i64 r.seq) ∧ W.cell? ⟨b, o + 2, none⟩ = some (.int .i64 r.part) ∧ W.cell? ⟨b, o + 3, none⟩ = some (.string r.key) ∧ W.cell? ⟨b, o + 4, none⟩ = some (.int .u32 (r.val : Nat))
theorem Cells5.keep {W W' : World} {b o : Nat} {r : Rc} (h : Cells5 W b o r) (hb : W'.heap[b]? = W.heap[b]?) : Cells5 W' b o r := by
  have e : ∀ j, W'.cell? ⟨b, j, none⟩ = W.cell? ⟨b, j, none⟩ := fun j => by simp only [World.cell?, hb]
  exact ⟨(e _).trans h.1, (e _).trans h.2.1, (e _).trans h.2.2.1, (e _).trans h.2.2.2.1, (e _).trans h.2.2.2.2⟩
/-- The slice value reads as these records; its block is in S. -/
def RecsAt (S : Nat → Prop) (W : World) (v : Value) (l : List Rc) : Prop :=
  ∃ A cap, v = .slice A l.length cap ∧ l.length ≤ cap ∧ (A = none → cap = 0) ∧ (0 < l.length → ∃ b off, A = some ⟨b, off, none⟩ ∧ S b ∧ ∀ j x, l[j]? = some x → Cells5 W b (off + j * 5) x)
theorem RecsAt.form {S : Nat → Prop} {W : World} {v : Value} {l : List Rc} (h : RecsAt S W v l) : ∃ A cap, v = .slice A l.length cap ∧ l.length ≤ cap := by
  obtain ⟨A, cap, h1, h2, _⟩ := h; exact ⟨A, cap, h1, h2⟩
theorem RecsAt.at {S : Nat → Prop} {W : World} {A : Option Addr} {len cap : Nat} {l : List Rc} (h : RecsAt S W (.slice A len cap) l) (hp : 0 < len) :
    ∃ b off, A = some ⟨b, off, none⟩ ∧ S b ∧ ∀ j x, l[j]? = some x → Cells5 W b (off + j * 5) x := by
  obtain ⟨A', cap', h1, _, _, h4⟩ := h
  simp only [Value.slice.injEq] at h1
  obtain ⟨rfl, rfl, rfl⟩ := h1
  exact h4 hp
theorem RecsAt.keep {S T : Nat → Prop} {W W' : World} (hb : ∀ b, S b → W'.heap[b]? = W.heap[b]?) (hST : ∀ b, S b → T b) {v : Value} {l : List Rc} (h : RecsAt S W v l) : RecsAt T W' v l := by
  obtain ⟨A, cap, h1, h2, h3, h4⟩ := h
  refine ⟨A, cap, h1, h2, h3, fun hp => ?_⟩
  obtain ⟨b, off, e, hS, hc⟩ := h4 hp
  exact ⟨b, off, e, hST b hS, fun j x hx => (hc j x hx).keep (hb b hS)⟩
theorem RecsAt.mono {S T : Nat → Prop} {W : World} (hST : ∀ b, S b → T b) {v : Value} {l : List Rc} (h : RecsAt S W v l) : RecsAt T W v l := h.keep (fun _ _ => rfl) hST
abbrev OldRc (n : Nat) (W : World) (v : Value) (l : List Rc) : Prop := RecsAt (fun b => b < n) W v l
theorem RecsAt.low {n : Nat} {A B : World} (h : Below n A B) {v : Value} {l : List Rc} (hI : OldRc n A v l) : OldRc n B v l := hI.keep (fun b hb => h.block b hb) (fun _ h => h)
theorem RecsAt.on {A B : World} (h : Below A.heap.size A B) {v : Value} {l : List Rc} (hI : OldRc A.heap.size A v l) : OldRc B.heap.size B v l := (RecsAt.low h hI).mono (fun _ hb => Nat.lt_of_lt_of_le hb h.size)
/-- The slice value reads as lists of pairs; all blocks are in S. -/
def FoldsAt (S : Nat → Prop) (W : World) (v : Value) (l : List (List Pr)) : Prop :=
  ∃ A cap, v = .slice A l.length cap ∧ l.length ≤ cap ∧ (A = none → cap = 0) ∧ (0 < l.length → ∃ b off, A = some ⟨b, off, none⟩ ∧ S b ∧ ∀ j x, l[j]? = some x → ∃ u, W.cell? ⟨b, off + j, none⟩ = some u ∧ TwoAt pk pv S W u x)
theorem FoldsAt.form {S : Nat → Prop} {W : World} {v : Value} {l : List (List Pr)} (h : FoldsAt S W v l) : ∃ A cap, v = .slice A l.length cap ∧ l.length ≤ cap := by
  obtain ⟨A, cap, h1, h2, _⟩ := h; exact ⟨A, cap, h1, h2⟩
theorem FoldsAt.nil (S : Nat → Prop) (W : World) : FoldsAt S W (.slice none 0 0) [] := ⟨none, 0, rfl, Nat.le_refl _, fun _ => rfl, fun h => absurd h (Nat.lt_irrefl _)⟩
theorem FoldsAt.at {S : Nat → Prop} {W : World} {A : Option Addr} {len cap : Nat} {l : List (List Pr)} (h : FoldsAt S W (.slice A len cap) l) (hp : 0 < len) :
    ∃ b off, A = some ⟨b, off, none⟩ ∧ S b ∧ ∀ j x, l[j]? = some x → ∃ u, W.cell? ⟨b, off + j, none⟩ = some u ∧ TwoAt pk pv S W u x := by
  obtain ⟨A', cap', h1, _, _, h4⟩ := h
  simp only [Value.slice.injEq] at h1
  obtain ⟨rfl, rfl, rfl⟩ := h1
  exact h4 hp
theorem FoldsAt.keep {S T : Nat → Prop} {W W' : World} (hb : ∀ b, S b → W'.heap[b]? = W.heap[b]?) (hST : ∀ b, S b → T b) {v : Value} {l : List (List Pr)} (h : FoldsAt S W v l) : FoldsAt T W' v l := by
  obtain ⟨A, cap, h1, h2, h3, h4⟩ := h
  refine ⟨A, cap, h1, h2, h3, fun hp => ?_⟩
  obtain ⟨b, off, e, hS, hc⟩ := h4 hp
  refine ⟨b, off, e, hST b hS, fun j x hx => ?_⟩
  obtain ⟨u, hu, ht⟩ := hc j x hx
  exact ⟨u, by simp only [World.cell?, hb b hS]; exact hu, ht.keep hb hST⟩
theorem FoldsAt.mono {S T : Nat → Prop} {W : World} (hST : ∀ b, S b → T b) {v : Value} {l : List (List Pr)} (h : FoldsAt S W v l) : FoldsAt T W v l := h.keep (fun _ _ => rfl) hST
abbrev OldF (n : Nat) (W : World) (v : Value) (l : List (List Pr)) : Prop := FoldsAt (fun b => b < n) W v l
theorem FoldsAt.low {n : Nat} {A B : World} (h : Below n A B) {v : Value} {l : List (List Pr)} (hI : OldF n A v l) : OldF n B v l := hI.keep (fun b hb => h.block b hb) (fun _ h => h)
theorem FoldsAt.on {A B : World} (h : Below A.heap.size A B) {v : Value} {l : List (List Pr)} (hI : OldF A.heap.size A v l) : OldF B.heap.size B v l := (FoldsAt.low h hI).mono (fun _ hb => Nat.lt_of_lt_of_le hb h.size)

theorem info_pair : (Try.prog.info? 47).map (fun i => (i.zero, i.size, i.bytes)) = some (some (.agg #[.string ⟨#[]⟩, .int .u32 0]), 2, 24) := by kernel_rfl
/-- A number, and nothing that lay has turned. -/
abbrev RetUB (n : Nat) (w : World) (e : Ending) (W : World) : Prop := e = .returned (.int .u32 (n : Nat)) ∧ Below w.heap.size w W
/-- Pairs in new memory. -/
def RetP (l : List Pr) (w : World) (e : Ending) (W : World) : Prop := ∃ v, e = .returned v ∧ OwnP W w.heap.size v l ∧ Below w.heap.size w W
/-- One more pair behind, that lies as a literal. -/
theorem OwnP.put {w : World} {base : Nat} {v : Value} {l : List Pr} (h : OwnP w base v l) (hbase : base ≤ w.heap.size) (p : Pr) (ty : TypeId) (hroom : (l.length + 1) * 24 ≤ 140737488355328) :
    ∃ A c W', (Builtin.append_ #[41, 41] ty #[v, .slice (some ⟨w.heap.size, 0, none⟩) 1 1]).run Try.prog (w.alloc (.cells #[pk p, pv p] 47)) = .ok (.slice A (l.length + 1) c) W' ∧ OwnP W' base (.slice A (l.length + 1) c) (l ++ [p]) ∧ w.grownBy W' v.ownBlock ∧ l.length + 1 ≤ c := by
  obtain ⟨i0, hi, hz0, hz1, hz2⟩ := info_parts info_pair
  obtain ⟨v', W', hrun, h2, h3, _⟩ := h.append (P := Try.prog) w (t := 41) ty pk_one pv_one Try.underlying41 hi hz0 hz1 hz2 (by decide) hbase p (by simp only [maxLen]; omega) hroom
  obtain ⟨A, c, rfl, hc⟩ := h2.form
  rw [List.length_append, List.length_singleton] at hrun h2 hc
  exact ⟨A, c, W', hrun, h2, h3, hc⟩

end Go.Proofs.Ytmfndimejnbgkaa.Model
