/-
  What lies while a message is read: the bytes that are left, and the parts that are open.
-/
import Derived.Test.YtffehnojcajhiaaWirePut
namespace Go.Proofs.Ytffehnojcajhiaa.Wire
open Go Go.RowKit Go.Proofs.Ytffehnojcajhiaa.Law

/-- The parts ahead of the innermost one, their items in blocks from base up to hi. -/
def Stk (W : World) (base : Nat) (f : Nat → Value) (c : Nat) : List (List Item × Int) → Nat → Prop
  | [], hi => base ≤ hi
  | (a, t) :: ps, hi => ∃ lo, Stk W base f c ps lo ∧ lo ≤ hi ∧ Grow lo hi W (f (ps.length * 2)) a ∧ f (ps.length * 2 + 1) = .int .i64 t ∧ a.length + 1 ≤ c ∧ t ≤ 9223372036854775807 ∧ (ps = [] → t = -(a.length : Int)) ∧ (ps ≠ [] → 1 ≤ t)

theorem Stk.le {W : World} {base : Nat} {f : Nat → Value} {c : Nat} : ∀ {ps : List (List Item × Int)} {hi : Nat}, Stk W base f c ps hi → base ≤ hi
  | [], _, h => h
  | (_, _) :: _, _, ⟨_, h1, h2, _⟩ => Nat.le_trans (Stk.le h1) h2

theorem Stk.keep {W W' : World} {base : Nat} {f f' : Nat → Value} {c c' : Nat} (hc : c ≤ c') : ∀ {ps : List (List Item × Int)} {hi : Nat}, (∀ b, base ≤ b → b < hi → W'.heap[b]? = W.heap[b]?) → hi ≤ W'.heap.size → (∀ i, i < ps.length * 2 → f' i = f i) →
    Stk W base f c ps hi → Stk W' base f' c' ps hi
  | [], _, _, _, _, h => h
  | (a, t) :: ps, hi, hb, hs, hf, ⟨lo, h1, h2, h3, h4, h5, h6, h7, h8⟩ => by
    have hl := h1.le
    refine ⟨lo, Stk.keep hc (fun b hb1 hb2 => hb b hb1 (by omega)) (by omega) (fun i hi => hf i (by simp only [List.length_cons]; omega)) h1, h2, ?_, ?_, by omega, h6, h7, h8⟩
    · rw [hf _ (by simp only [List.length_cons]; omega)]
      exact h3.keep (fun b hb1 hb2 => hb b (by omega) hb2) (Nat.le_refl _) hs
    · rw [hf _ (by simp only [List.length_cons]; omega)]; exact h4

/-- What lies. -/
def Lies (w : World) (rb n₀ : Nat) (ps : List (List Item × Int)) (acc : List Item) (n : Int) (c : Nat) (bs : List Nat) (W : World) : Prop :=
  ∃ B f lo, Rdr W rb B ∧ Bytes n₀ W B bs ∧ PB W w.heap.size f ∧ w.grownBy W (some rb) ∧ Stk W (w.heap.size + 1) f c ps lo ∧ lo ≤ W.heap.size ∧ Grow lo W.heap.size W (f (ps.length * 2)) acc ∧ f (ps.length * 2 + 1) = .int .i64 n

/-- How many there are. -/
def Num (ps : List (List Item × Int)) (acc : List Item) (n : Int) (c : Nat) : Prop :=
  c ≤ 4096 ∧ ps.length ≤ 8 ∧ acc.length ≤ c ∧ n ≤ 9223372036854775807 ∧ (ps = [] → n = -(acc.length : Int)) ∧ (ps ≠ [] → 0 ≤ n)

theorem Num.low {ps : List (List Item × Int)} {acc : List Item} {n : Int} {c : Nat} (h : Num ps acc n c) : -4096 ≤ n := by
  obtain ⟨h1, h2, h3, h4, h5, h6⟩ := h
  by_cases hp : ps = []
  · have := h5 hp; omega
  · have := h6 hp; omega

theorem Lies.below {w W W' : World} {rb n₀ : Nat} {ps : List (List Item × Int)} {acc : List Item} {n : Int} {c : Nat} {bs : List Nat} (h : Lies w rb n₀ ps acc n c bs W) (hn : n₀ ≤ W.heap.size) (hB : Below W.heap.size W W') : Lies w rb n₀ ps acc n c bs W' := by
  obtain ⟨B, f, lo, h1, h2, h3, h4, h5, h6, h7, h8⟩ := h
  refine ⟨B, f, lo, (hB.block rb (lt_of_some h1)).trans h1, h2.below (hB.mono hn), h3.keep (hB.block _ h3.lt), h4.trans (grown_of_below hB _), h5.keep (Nat.le_refl _) (fun b _ hb => hB.block b (by omega)) (by have := hB.size; omega) (fun _ _ => rfl), by have := hB.size; omega, h7.below hB, h8⟩
theorem Lies.drew {w W : World} {rb n₀ : Nat} {ps : List (List Item × Int)} {acc : List Item} {n : Int} {c : Nat} {bs : List Nat} (h : Lies w rb n₀ ps acc n c bs W) (hn : n₀ ≤ W.heap.size) : Lies w rb n₀ ps acc n c bs W.drew := h.below hn (Below.refl _ _).drew

/-- The bytes that are left have turned. -/
theorem Lies.rest {w W W' : World} {rb n₀ : Nat} {ps : List (List Item × Int)} {acc : List Item} {n : Int} {c : Nat} {bs bs' : List Nat} {B' : Value} (h : Lies w rb n₀ ps acc n c bs W) (hrb : rb < w.heap.size) (hG : W.grownBy W' (some rb)) (hs : W.heap.size = W'.heap.size) (hR : Rdr W' rb B') (hI : Bytes n₀ W' B' bs') :
    Lies w rb n₀ ps acc n c bs' W' := by
  obtain ⟨B, f, lo, h1, h2, h3, h4, h5, h6, h7, h8⟩ := h
  have hl := h5.le
  have hpl := h3.lt
  have hblk : ∀ b, w.heap.size ≤ b → b < W.heap.size → W'.heap[b]? = W.heap[b]? := fun b hb1 hb2 => hG.block b hb2 (fun e => by simp at e; omega)
  refine ⟨B', f, lo, hR, hI, h3.keep (hblk _ (Nat.le_refl _) hpl), h4.trans hG, h5.keep (Nat.le_refl _) (fun b hb1 hb2 => hblk b (by omega) (by omega)) (by omega) (fun _ _ => rfl), by omega, ?_, h8⟩
  have := h7.keep (W' := W') (hi' := W'.heap.size) (fun b hb1 hb2 => hblk b (by omega) hb2) (by omega) (Nat.le_refl _)
  exact this

/-- An item was put into the innermost part. -/
theorem Lies.putDone {w W W' : World} {rb n₀ : Nat} {ps : List (List Item × Int)} {l : List Item} {n : Int} {c c' : Nat} {bs : List Nat} {f : Nat → Value} {lo : Nat} {v B : Value} (hrb : rb < w.heap.size) (hn : n₀ ≤ rb) (hc : c ≤ c')
    (h1 : Rdr W rb B) (h2 : Bytes n₀ W B bs) (h4 : w.grownBy W (some rb)) (h5 : Stk W (w.heap.size + 1) f c ps lo) (h6 : lo ≤ W.heap.size) (hown : ∀ b, v.ownBlock = some b → lo ≤ b)
    (h : PutDone W w.heap.size ps.length lo f v n l W') : Lies w rb n₀ ps l (n - 1) c' bs W' := by
  obtain ⟨v', p1, p2, p3, p4, p5, p6, p7⟩ := h
  have hl := h5.le
  have hno : ∀ b, b < lo → v.ownBlock ≠ some b := fun b hb e => by have := hown b e; omega
  have hlow : Below w.heap.size W W' := ⟨p3.symm, p4.symm, p5.symm, p6, fun b hb => p7 b (by omega) (by omega) (hno b (by omega))⟩
  refine ⟨B, _, lo, (hlow.block rb hrb).trans h1, h2.below (hlow.mono (by omega)), p1, ⟨p3.symm.trans h4.os, p4.symm.trans h4.tape, p5.symm.trans h4.output, Nat.le_trans h4.size p6, fun b hb hne => (hlow.block b hb).trans (h4.block b hb hne)⟩, ?_, by omega, ?_, ?_⟩
  · refine h5.keep hc (fun b hb1 hb2 => p7 b (by omega) (by omega) (hno b hb2)) (by omega) (fun i hi => ?_)
    try dsimp only
    rw [if_neg (by omega), if_neg (by omega)]
  · try dsimp only
    rw [if_neg (by omega), if_pos rfl]; exact p2
  · try dsimp only
    rw [if_pos rfl]

theorem Lies.put {w W : World} {rb n₀ : Nat} {ps : List (List Item × Int)} {acc : List Item} {n : Int} {c : Nat} {bs : List Nat} (h : Lies w rb n₀ ps acc n c bs W) (hN : Num ps acc n c) (hrb : rb < w.heap.size) (hn : n₀ ≤ rb) (x : Item) (hx : x.kids = []) (c' : Nat) (hc : c ≤ c') :
    Calls Try.prog 56 #[.pointer (some ⟨w.heap.size, ps.length * 2, none⟩), aggOf x (.slice none 0 0)] W fun e W' => e = .returned (.tuple #[]) ∧ Lies w rb n₀ ps (acc ++ [x]) (n - 1) c' bs W' := by
  have hlow := hN.low
  obtain ⟨B, f, lo, h1, h2, h3, h4, h5, h6, h7, h8⟩ := h
  obtain ⟨n1, n2, n3, n4, n5, n6⟩ := hN
  have hl := h5.le
  refine (put_calls x none 0 0 w.heap.size ps.length lo W.heap.size f _ n acc W h3 n2 rfl h8 (by omega) h7 h6 (by omega) (by omega) (.nil none 0 _ (fun _ => rfl) hx)).mono ?_
  rintro e W' ⟨he, hP⟩
  exact ⟨he, Lies.putDone hrb hn hc h1 h2 h4 h5 h6 (fun b hb => (h7.own b hb).1) hP⟩

/-- The innermost part is done: its items are put into the one ahead. -/
theorem Lies.close {w W : World} {rb n₀ : Nat} {ps : List (List Item × Int)} {a acc : List Item} {t n : Int} {c : Nat} {bs : List Nat} (h : Lies w rb n₀ ((a, t) :: ps) acc n c bs W) (hN : Num ((a, t) :: ps) acc n c) (hrb : rb < w.heap.size) (hn : n₀ ≤ rb) :
    ∃ Au lu cu, W.cell? ⟨w.heap.size, (ps.length + 1) * 2, none⟩ = some (.slice Au lu cu) ∧ Num ps (a ++ [.mk 2 0 noT acc]) (t - 1) c ∧
    Calls Try.prog 56 #[.pointer (some ⟨w.heap.size, ps.length * 2, none⟩), aggOf (.mk 2 0 noT acc) (.slice Au lu cu)] W fun e W' => e = .returned (.tuple #[]) ∧ Lies w rb n₀ ps (a ++ [.mk 2 0 noT acc]) (t - 1) c bs W' := by
  obtain ⟨B, f, lo, h1, h2, h3, h4, ⟨lo', k1, k2, k3, k4, k5, k6, k7, k8⟩, h6, h7, h8⟩ := h
  obtain ⟨n1, n2, n3, n4, n5, n6⟩ := hN
  have hl := k1.le
  obtain ⟨Au, cu, hv, _⟩ := h7.form
  simp only [List.length_cons] at hv h7 n2
  refine ⟨Au, acc.length, cu, ?_, ⟨n1, by omega, by simp; omega, by omega, fun hp => by rw [k7 hp]; simp; omega, fun hp => by have := k8 hp; omega⟩, ?_⟩
  · rw [← hv]; exact (h3 ((ps.length + 1) * 2) (by omega)).1
  have hu : Items (fun b => lo' ≤ b ∧ b < W.heap.size ∧ (f (ps.length * 2)).ownBlock ≠ some b) W (.slice Au acc.length cu) (Item.kids (.mk 2 0 noT acc)) := by
    rw [← hv]
    exact h7.items.mono (fun b hb => ⟨by omega, hb.2, fun e => by have := (k3.own b e).2; omega⟩)
  have hlow : -9223372036854775807 ≤ t := by
    by_cases hp : ps = []
    · have := k7 hp; omega
    · have := k8 hp; omega
  have k3' : Grow lo' lo W (f (ps.length * 2)) a := k3
  refine (put_calls (.mk 2 0 noT acc) Au acc.length cu w.heap.size ps.length lo' lo f _ t a W h3 (by omega) rfl k4 ⟨hlow, k6⟩ k3' k2 (by omega) (by omega) hu).mono ?_
  rintro e W' ⟨he, hP⟩
  exact ⟨he, Lies.putDone hrb hn (Nat.le_refl _) h1 h2 h4 k1 (by omega) (fun b hb => (k3.own b hb).1) hP⟩

set_option maxHeartbeats 1000000 in
/-- A list is begun. -/
theorem Lies.push {w W : World} {rb n₀ : Nat} {ps : List (List Item × Int)} {acc : List Item} {n : Int} {c m : Nat} {bs : List Nat} (h : Lies w rb n₀ ps acc n c bs W) (hN : Num ps acc n c) (hM : ps = [] ∨ 0 < n) (hrb : rb < w.heap.size) (hn : n₀ ≤ rb) (hd : ps.length < 8) (hc : c < 4096) (hm : m ≤ 9223372036854775807) :
    Num ((acc, n) :: ps) [] m (c + 1) ∧ Lies w rb n₀ ((acc, n) :: ps) [] m (c + 1) bs ((W.setCell ⟨w.heap.size, (ps.length + 1) * 2, none⟩ (.slice none 0 0)).setCell ⟨w.heap.size, (ps.length + 1) * 2 + 1, none⟩ (.int .i64 (m : Nat))) := by
  obtain ⟨B, f, lo, h1, h2, h3, h4, h5, h6, h7, h8⟩ := h
  obtain ⟨n1, n2, n3, n4, n5, n6⟩ := hN
  have hl := h5.le
  have hblk : ∀ b, b ≠ w.heap.size → ((W.setCell ⟨w.heap.size, (ps.length + 1) * 2, none⟩ (.slice none 0 0)).setCell ⟨w.heap.size, (ps.length + 1) * 2 + 1, none⟩ (.int .i64 (m : Nat))).heap[b]? = W.heap[b]? := fun b hb => by
    rw [Below.heap_setCell _ _ _ _ hb, Below.heap_setCell _ _ _ _ hb]
  have hsz : ((W.setCell ⟨w.heap.size, (ps.length + 1) * 2, none⟩ (.slice none 0 0)).setCell ⟨w.heap.size, (ps.length + 1) * 2 + 1, none⟩ (.int .i64 (m : Nat))).heap.size = W.heap.size := by simp [World.setCell]
  have hP := (h3.set ((ps.length + 1) * 2) (by omega) (.slice none 0 0)).set ((ps.length + 1) * 2 + 1) (by omega) (.int .i64 (m : Nat))
  have hB0 : Below w.heap.size W ((W.setCell ⟨w.heap.size, (ps.length + 1) * 2, none⟩ (.slice none 0 0)).setCell ⟨w.heap.size, (ps.length + 1) * 2 + 1, none⟩ (.int .i64 (m : Nat))) :=
    ((Below.refl w.heap.size W).setCell (p := ⟨w.heap.size, (ps.length + 1) * 2, none⟩) (Nat.le_refl w.heap.size) (.slice none 0 0)).setCell (p := ⟨w.heap.size, (ps.length + 1) * 2 + 1, none⟩) (Nat.le_refl w.heap.size) (.int .i64 (m : Nat))
  obtain ⟨W', hW'⟩ : ∃ W', ((W.setCell ⟨w.heap.size, (ps.length + 1) * 2, none⟩ (.slice none 0 0)).setCell ⟨w.heap.size, (ps.length + 1) * 2 + 1, none⟩ (.int .i64 (m : Nat))) = W' := ⟨_, rfl⟩
  rw [hW'] at hblk hsz hP hB0 ⊢
  clear hW'
  refine ⟨⟨by omega, by simp; omega, by simp, by omega, fun h => by simp at h, fun _ => by omega⟩, B, _, W.heap.size, (hB0.block rb hrb).trans h1, h2.below (hB0.mono (by omega)), hP, ?_, ⟨lo, ?_, h6, ?_, ?_, by omega, n4, n5, fun hp => ?_⟩, by omega, ?_, ?_⟩
  · exact ⟨hB0.os.trans h4.os, hB0.tape.trans h4.tape, hB0.output.trans h4.output, Nat.le_trans h4.size hB0.size, fun b hb hne => (hB0.block b hb).trans (h4.block b hb hne)⟩
  · refine h5.keep (by omega) (fun b hb1 hb2 => hblk b (by omega)) (by omega) (fun i hi => ?_)
    try dsimp only
    rw [if_neg (by omega), if_neg (by omega)]
  · try dsimp only
    rw [if_neg (by omega), if_neg (by omega)]
    exact h7.keep (fun b hb1 hb2 => hblk b (by omega)) (Nat.le_refl _) (by omega)
  · try dsimp only
    rw [if_neg (by omega), if_neg (by omega)]; exact h8
  · rcases hM with h | h
    · exact absurd h hp
    · omega
  · simp only [List.length_cons]
    try dsimp only
    rw [if_neg (by omega)]
    simp only [if_true]
    rw [hsz]
    exact Grow.nil _ _ _ (by rw [hsz]; exact Nat.le_refl _)
  · simp only [List.length_cons]
    try dsimp only
    simp only [if_true]

end Go.Proofs.Ytffehnojcajhiaa.Wire
