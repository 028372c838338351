/-
  What the document's own reading of an item leaves: the pieces.
-/
import Derived.Test.YtffehnojcajhiaaWireCut
import Derived.Test.YtffehnojcajhiaaWireGrow
namespace Go.Proofs.Ytffehnojcajhiaa.Wire
open Go Go.RowKit Go.Proofs.Ytffehnojcajhiaa.Law

/-- An item as a value. -/
def aggOf (x : Item) (u : Value) : Value := .agg #[.int .i64 x.kind, .int .i64 x.n, .string x.s, u]
abbrev zeroItem : Value := .agg #[.int .i64 0, .int .i64 0, .string ⟨#[]⟩, .slice none 0 0]
abbrev zeroBox : Obj := .cells #[.int .i64 0, .int .i64 0, .string ⟨#[]⟩, .slice none 0 0] 71

/-- What item leaves. -/
def ItemRead (w : World) (rb n₀ : Nat) : Except Nat (Item × Nat × List Nat) → Ending → World → Prop
  | .ok (x, c', r), e, W => ∃ u B, e = .returned (aggOf x u) ∧ w.grownBy W (some rb) ∧ Rd W rb B c' 0 ∧ Bytes n₀ W B r ∧ Items (fun b => w.heap.size ≤ b ∧ b < W.heap.size) W u x.kids
  | .error k, e, W => ∃ B c', e = .returned zeroItem ∧ w.grownBy W (some rb) ∧ Rd W rb B c' k

theorem box4 {W : World} {b : Nat} {x0 x1 x2 x3 : Value} {t : TypeId} (h : W.heap[b]? = some (Obj.cells #[x0, x1, x2, x3] t)) :
    W.cell? ⟨b, 0, none⟩ = some x0 ∧ W.cell? ⟨b, 1, none⟩ = some x1 ∧ W.cell? ⟨b, 2, none⟩ = some x2 ∧ W.cell? ⟨b, 3, none⟩ = some x3 ∧ W.frozen? ⟨b, 0, none⟩ = false ∧ W.frozen? ⟨b, 1, none⟩ = false ∧ W.frozen? ⟨b, 2, none⟩ = false ∧ W.frozen? ⟨b, 3, none⟩ = false := by
  refine ⟨?_, ?_, ?_, ?_, ?_, ?_, ?_, ?_⟩ <;> simp [World.cell?, World.frozen?, h]
theorem rdNum_err : ∀ (bs : List Nat) (i n k : Nat), rdNum i n bs = .error k → k ≠ 0
  | [], i, n, k, h => by simp [rdNum] at h; omega
  | x :: bs, i, n, k, h => by
    rw [rdNum] at h
    split at h
    · simp at h; omega
    · split at h
      · cases h
      · exact rdNum_err bs _ _ _ h

theorem grown_put {w W : World} {rb b i : Nat} (h : w.grownBy W (some rb)) (hb : w.heap.size ≤ b) (v : Value) : w.grownBy (W.setCell ⟨b, i, none⟩ v) (some rb) :=
  ⟨h.os, h.tape, h.output, by have := h.size; simpa [World.setCell] using this, fun k hk hne => (Below.heap_setCell _ _ _ _ (by show k ≠ b; omega)).trans (h.block k hk hne)⟩
theorem grown_put4 {w W : World} {rb b : Nat} (h : w.grownBy W (some rb)) (hb : w.heap.size ≤ b) (v0 v1 v2 v3 : Value) : w.grownBy ((((W.setCell ⟨b, 0, none⟩ v0).setCell ⟨b, 1, none⟩ v1).setCell ⟨b, 2, none⟩ v2).setCell ⟨b, 3, none⟩ v3) (some rb) :=
  grown_put (grown_put (grown_put (grown_put h hb _) hb _) hb _) hb _
theorem rd_put {W : World} {rb b i c e : Nat} {B : Value} (h : Rd W rb B c e) (hb : rb ≠ b) (v : Value) : Rd (W.setCell ⟨b, i, none⟩ v) rb B c e := (Below.heap_setCell _ _ _ _ hb).trans h
theorem rd_put4 {W : World} {rb b c e : Nat} {B : Value} (h : Rd W rb B c e) (hb : rb ≠ b) (v0 v1 v2 v3 : Value) : Rd ((((W.setCell ⟨b, 0, none⟩ v0).setCell ⟨b, 1, none⟩ v1).setCell ⟨b, 2, none⟩ v2).setCell ⟨b, 3, none⟩ v3) rb B c e :=
  rd_put (rd_put (rd_put (rd_put h hb _) hb _) hb _) hb _
theorem by_put {W : World} {n₀ b i : Nat} {B : Value} {bs : List Nat} (h : Bytes n₀ W B bs) (hb : n₀ ≤ b) (v : Value) : Bytes n₀ (W.setCell ⟨b, i, none⟩ v) B bs := Bytes.below ((Below.refl n₀ W).setCell (p := ⟨b, i, none⟩) hb v) h
theorem by_put4 {W : World} {n₀ b : Nat} {B : Value} {bs : List Nat} (h : Bytes n₀ W B bs) (hb : n₀ ≤ b) (v0 v1 v2 v3 : Value) : Bytes n₀ ((((W.setCell ⟨b, 0, none⟩ v0).setCell ⟨b, 1, none⟩ v1).setCell ⟨b, 2, none⟩ v2).setCell ⟨b, 3, none⟩ v3) B bs :=
  by_put (by_put (by_put (by_put h hb _) hb _) hb _) hb _

theorem err_early {w : World} {rb n₀ c : Nat} {B : Value} (hR : Rd w rb B c 0) (k : Nat) : ItemRead w rb n₀ (.error k) (.returned zeroItem) (((w.setCell ⟨rb, 1, none⟩ (.int .i64 ((c : Int) + 1))).setCell ⟨rb, 2, none⟩ (.int .i64 (k : Nat))).alloc zeroBox) :=
  ⟨B, c + 1, rfl, grown_alloc (grown_set (i := 2) (grown_set (i := 1) (grown_refl _ _) _) _) _, Rd.below ((hR.set1 (c + 1) rfl).set2 k rfl) ((Below.refl _ _).alloc (Nat.le_refl _) _)⟩

theorem err_boxed {w : World} {rb n₀ c : Nat} {B : Value} (hR : Rd w rb B c 0) (k : Nat) (o : Obj) : ItemRead w rb n₀ (.error k) (.returned zeroItem) ((((w.setCell ⟨rb, 1, none⟩ (.int .i64 ((c : Int) + 1))).setCell ⟨rb, 2, none⟩ (.int .i64 (k : Nat))).alloc zeroBox).alloc o) :=
  ⟨B, c + 1, rfl, grown_alloc (grown_alloc (grown_set (i := 2) (grown_set (i := 1) (grown_refl _ _) _) _) _) _, Rd.below ((hR.set1 (c + 1) rfl).set2 k rfl) (((Below.refl _ _).alloc (Nat.le_refl _) _).alloc (by simp) _)⟩


theorem rdI_count : ∀ (b c : Nat) (bs : List Nat) (x : Item) (c' : Nat) (r : List Nat), rdI b c bs = .ok (x, c', r) → c < c' ∧ c' ≤ 4096 ∧ r.length ≤ bs.length := by
  intro b
  induction b with
  | zero => intro c bs x c' r h; simp [rdI] at h
  | succ b ih =>
    have hL : ∀ (n c : Nat) (bs : List Nat) (acc l : List Item) (c' : Nat) (r : List Nat), c ≤ 4096 → rdL (rdI b) n c bs acc = .ok (l, c', r) → c ≤ c' ∧ c' ≤ 4096 ∧ r.length ≤ bs.length := by
      intro n
      induction n with
      | zero => intro c bs acc l c' r hc h; simp only [rdL, Except.ok.injEq, Prod.mk.injEq] at h; obtain ⟨_, rfl, rfl⟩ := h; exact ⟨Nat.le_refl _, hc, Nat.le_refl _⟩
      | succ n ihn =>
        intro c bs acc l c' r hc h
        rw [rdL] at h
        match hq : rdI b c bs with
        | .error e => rw [hq] at h; cases h
        | .ok (y, c2, r2) =>
          rw [hq] at h
          have h1 := ih c bs y c2 r2 hq
          have h2 := ihn c2 r2 _ l c' r h1.2.1 h
          omega
    intro c bs x c' r h
    rw [rdI] at h
    split at h
    · cases h
    · rename_i hc
      match hh : rdHead bs with
      | .error e => rw [hh] at h; cases h
      | .ok (k, n, r1) =>
        have hlr : r1.length ≤ bs.length := by
          match bs, hh with
          | [], hh => simp [rdHead] at hh
          | q :: bs, hh =>
            rw [rdHead] at hh
            split at hh
            · cases hh
            · match hz : rdNum 0 0 bs with
              | .error e => rw [hz] at hh; cases hh
              | .ok (m, r2) =>
                rw [hz] at hh
                simp only at hh
                split at hh
                · cases hh
                · simp only [Except.ok.injEq, Prod.mk.injEq] at hh
                  obtain ⟨_, _, rfl⟩ := hh
                  have := (rdNum_length bs 0 0 m r2 hz).1
                  simp; omega
        rw [hh] at h
        simp only at h
        split at h
        · simp only [Except.ok.injEq, Prod.mk.injEq] at h; obtain ⟨_, rfl, rfl⟩ := h; omega
        · split at h
          · split at h
            · cases h
            · simp only [Except.ok.injEq, Prod.mk.injEq] at h; obtain ⟨_, rfl, rfl⟩ := h; simp; omega
          · match hq : rdL (rdI b) n (c + 1) r1 [] with
            | .error e => rw [hq] at h; cases h
            | .ok (l, c2, r2) =>
              rw [hq] at h
              simp only [Except.ok.injEq, Prod.mk.injEq] at h
              obtain ⟨_, rfl, rfl⟩ := h
              have := hL n (c + 1) r1 [] l c2 r2 (by omega) hq
              omega

/-- What lies while an item is read, once its number is there. -/
def Read1 (w W : World) (rb n₀ c : Nat) (A1 : Option Addr) (lr cap1 : Nat) (r : List Nat) (o : Obj) : Prop :=
  Rd W rb (.slice A1 lr cap1) (c + 1) 0 ∧ Bytes n₀ W (.slice A1 lr cap1) r ∧ W.heap[w.heap.size]? = some zeroBox ∧ W.heap[w.heap.size + 1]? = some o ∧ w.grownBy W (some rb) ∧ W.heap.size = w.heap.size + 2
theorem read1 {w : World} {rb n₀ c : Nat} {B : Value} (hR : Rd w rb B c 0) (hn : n₀ ≤ rb) {A1 : Option Addr} {lr cap1 : Nat} {r : List Nat} (hB1 : Bytes n₀ w (.slice A1 lr cap1) r) {v : Value} (hv : v = .int .i64 ((c : Int) + 1)) (o : Obj) :
    Read1 w ((((w.setCell ⟨rb, 1, none⟩ v).setCell ⟨rb, 0, none⟩ (.slice A1 lr cap1)).alloc zeroBox).alloc o) rb n₀ c A1 lr cap1 r o := by
  have hrb := lt_of_some hR
  have hsz : ((w.setCell ⟨rb, 1, none⟩ v).setCell ⟨rb, 0, none⟩ (.slice A1 lr cap1)).heap.size = w.heap.size := by simp [World.setCell]
  refine ⟨Rd.below ((hR.set1 (c + 1) hv).set0 (.slice A1 lr cap1)) (((Below.refl _ _).alloc (Nat.le_refl _) _).alloc (by simp) _), ?_, ?_, ?_, ?_, ?_⟩
  · exact Bytes.below ((((((Below.refl n₀ w).setCell (p := ⟨rb, 1, none⟩) hn v).setCell (p := ⟨rb, 0, none⟩) hn (.slice A1 lr cap1))).alloc (by rw [hsz]; omega) _).alloc (by simp [hsz]; omega) _) hB1
  · have h := heap_alloc_new ((w.setCell ⟨rb, 1, none⟩ v).setCell ⟨rb, 0, none⟩ (.slice A1 lr cap1)) zeroBox
    rw [hsz] at h
    rw [Below.heap_alloc _ _ _ (by simp [hsz])]; exact h
  · have h := heap_alloc_new (((w.setCell ⟨rb, 1, none⟩ v).setCell ⟨rb, 0, none⟩ (.slice A1 lr cap1)).alloc zeroBox) o
    rw [World.size_alloc, hsz] at h
    exact h
  · exact grown_alloc (grown_alloc (grown_set (i := 0) (grown_set (i := 1) (grown_refl _ _) _) _) _) _
  · rw [World.size_alloc, World.size_alloc, hsz]

end Go.Proofs.Ytffehnojcajhiaa.Wire
