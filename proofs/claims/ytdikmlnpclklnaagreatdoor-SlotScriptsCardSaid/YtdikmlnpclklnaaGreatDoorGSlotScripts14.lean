/-
  Put together out of texts of one chain: what they hold stands ahead of each.
-/
import Derived.Test.YtdikmlnpclklnaaGreatDoorGSlotScripts13
import Derived.Test.YtdikmlnpclklnaaGreatDoorGSlotScripts12
import Derived.Laws.IdiomStrings
import Derived.Lib.SliceRun
import Derived.OwnWalk
import Derived.LoopTactic
import Derived.Test.YtdikmlnpclklnaaGreatDoorWireEncode
import Derived.Test.YtdikmlnpclklnaaGreatDoorSame
import Derived.Deep.RegionWith
import Derived.WalkMore
/-
  What lies while a message is read: the bytes that are left, and the parts that are open.
-/
namespace Go.Proofs.YtdikmlnpclklnaaGreatDoor.Wire
open Go Go.RowKit Go.Proofs.YtdikmlnpclklnaaGreatDoor.Law

/-- The parts ahead of the innermost one, their items in blocks from base up to hi. -/
def Stk (W : World) (base : Nat) (f : Nat → Value) (c : Nat) : List (List Item × Int) → Nat → Prop
  | [], hi => base ≤ hi
  | (a, t) :: ps, hi => ∃ lo, Stk W base f c ps lo ∧ lo ≤ hi ∧ Grow lo hi W (f (ps.length * 2)) a ∧ f (ps.length * 2 + 1) = .int .i64 t ∧ a.length + 1 ≤ c ∧ t ≤ 9223372036854775807 ∧ (ps = [] → t = -(a.length : Int)) ∧ (ps ≠ [] → 1 ≤ t)

theorem Stk.le {W : World} {base : Nat} {f : Nat → Value} {c : Nat} : ∀ {ps : List (List Item × Int)} {hi : Nat}, Stk W base f c ps hi → base ≤ hi
  | [], _, h => h
  | (_, _) :: _, _, ⟨_, h1, h2, _⟩ => Nat.le_trans (Stk.le h1) h2

theorem Stk.keep {W W' : World} {base : Nat} {f f' : Nat → Value} {c c' : Nat} (hc : c ≤ c') : ∀ {ps : List (List Item × Int)} {hi : Nat}, (∀ b, base ≤ b → b < hi → W'.heap[b]? = W.heap[b]?) → hi ≤ W'.heap.size → (∀ i, i < ps.length * 2 → f' i = f i) →
    Stk W base f c ps hi → Stk W' base f' c' ps hi
  | [], _, _, _, _, h => h
  | (a, t) :: ps, hi, hb, hs, hf, ⟨lo, h1, h2, h3, h4, h5, h6, h7, h8⟩ => by
    have hl := h1.le
    refine ⟨lo, Stk.keep hc (fun b hb1 hb2 => hb b hb1 (by omega)) (by omega) (fun i hi => hf i (by simp only [List.length_cons]; omega)) h1, h2, ?_, ?_, by omega, h6, h7, h8⟩
    · rw [hf _ (by simp only [List.length_cons]; omega)]
      exact h3.keep (fun b hb1 hb2 => hb b (by omega) hb2) (Nat.le_refl _) hs
    · rw [hf _ (by simp only [List.length_cons]; omega)]; exact h4

/-- What lies. -/
def Lies (w : World) (rb n₀ : Nat) (ps : List (List Item × Int)) (acc : List Item) (n : Int) (c : Nat) (bs : List Nat) (W : World) : Prop :=
  ∃ B f lo, Rdr W rb B ∧ Bytes n₀ W B bs ∧ PB W w.heap.size f ∧ w.grownBy W (some rb) ∧ Stk W (w.heap.size + 1) f c ps lo ∧ lo ≤ W.heap.size ∧ Grow lo W.heap.size W (f (ps.length * 2)) acc ∧ f (ps.length * 2 + 1) = .int .i64 n

/-- How many there are. -/
def Num (ps : List (List Item × Int)) (acc : List Item) (n : Int) (c : Nat) : Prop :=
  c ≤ 4096 ∧ ps.length ≤ 8 ∧ acc.length ≤ c ∧ n ≤ 9223372036854775807 ∧ (ps = [] → n = -(acc.length : Int)) ∧ (ps ≠ [] → 0 ≤ n)

theorem Num.low {ps : List (List Item × Int)} {acc : List Item} {n : Int} {c : Nat} (h : Num ps acc n c) : -4096 ≤ n := by
  obtain ⟨h1, h2, h3, h4, h5, h6⟩ := h
  by_cases hp : ps = []
  · have := h5 hp; omega
  · have := h6 hp; omega

theorem Lies.below {w W W' : World} {rb n₀ : Nat} {ps : List (List Item × Int)} {acc : List Item} {n : Int} {c : Nat} {bs : List Nat} (h : Lies w rb n₀ ps acc n c bs W) (hn : n₀ ≤ W.heap.size) (hB : Below W.heap.size W W') : Lies w rb n₀ ps acc n c bs W' := by
  obtain ⟨B, f, lo, h1, h2, h3, h4, h5, h6, h7, h8⟩ := h
  refine ⟨B, f, lo, (hB.block rb (lt_of_some h1)).trans h1, h2.below (hB.mono hn), h3.keep (hB.block _ h3.lt), h4.trans (grown_of_below hB _), h5.keep (Nat.le_refl _) (fun b _ hb => hB.block b (by omega)) (by have := hB.size; omega) (fun _ _ => rfl), by have := hB.size; omega, h7.below hB, h8⟩
theorem Lies.drew {w W : World} {rb n₀ : Nat} {ps : List (List Item × Int)} {acc : List Item} {n : Int} {c : Nat} {bs : List Nat} (h : Lies w rb n₀ ps acc n c bs W) (hn : n₀ ≤ W.heap.size) : Lies w rb n₀ ps acc n c bs W.drew := h.below hn (Below.refl _ _).drew

/-- The bytes that are left have turned. -/
theorem Lies.rest {w W W' : World} {rb n₀ : Nat} {ps : List (List Item × Int)} {acc : List Item} {n : Int} {c : Nat} {bs bs' : List Nat} {B' : Value} (h : Lies w rb n₀ ps acc n c bs W) (hrb : rb < w.heap.size) (hG : W.grownBy W' (some rb)) (hs : W.heap.size = W'.heap.size) (hR : Rdr W' rb B') (hI : Bytes n₀ W' B' bs') :
    Lies w rb n₀ ps acc n c bs' W' := by
  obtain ⟨B, f, lo, h1, h2, h3, h4, h5, h6, h7, h8⟩ := h
  have hl := h5.le
  have hpl := h3.lt
  have hblk : ∀ b, w.heap.size ≤ b → b < W.heap.size → W'.heap[b]? = W.heap[b]? := fun b hb1 hb2 => hG.block b hb2 (fun e => by simp at e; omega)
  refine ⟨B', f, lo, hR, hI, h3.keep (hblk _ (Nat.le_refl _) hpl), h4.trans hG, h5.keep (Nat.le_refl _) (fun b hb1 hb2 => hblk b (by omega) (by omega)) (by omega) (fun _ _ => rfl), by omega, ?_, h8⟩
  have := h7.keep (W' := W') (hi' := W'.heap.size) (fun b hb1 hb2 => hblk b (by omega) hb2) (by omega) (Nat.le_refl _)
  exact this

/-- An item was put into the innermost part. -/
theorem Lies.putDone {w W W' : World} {rb n₀ : Nat} {ps : List (List Item × Int)} {l : List Item} {n : Int} {c c' : Nat} {bs : List Nat} {f : Nat → Value} {lo : Nat} {v B : Value} (hrb : rb < w.heap.size) (hn : n₀ ≤ rb) (hc : c ≤ c')
    (h1 : Rdr W rb B) (h2 : Bytes n₀ W B bs) (h4 : w.grownBy W (some rb)) (h5 : Stk W (w.heap.size + 1) f c ps lo) (h6 : lo ≤ W.heap.size) (hown : ∀ b, v.ownBlock = some b → lo ≤ b)
    (h : PutDone W w.heap.size ps.length lo f v n l W') : Lies w rb n₀ ps l (n - 1) c' bs W' := by
  obtain ⟨v', p1, p2, p3, p4, p5, p6, p7⟩ := h
  have hl := h5.le
  have hno : ∀ b, b < lo → v.ownBlock ≠ some b := fun b hb e => by have := hown b e; omega
  have hlow : Below w.heap.size W W' := ⟨p3.symm, p4.symm, p5.symm, p6, fun b hb => p7 b (by omega) (by omega) (hno b (by omega))⟩
  refine ⟨B, _, lo, (hlow.block rb hrb).trans h1, h2.below (hlow.mono (by omega)), p1, ⟨p3.symm.trans h4.os, p4.symm.trans h4.tape, p5.symm.trans h4.output, Nat.le_trans h4.size p6, fun b hb hne => (hlow.block b hb).trans (h4.block b hb hne)⟩, ?_, by omega, ?_, ?_⟩
  · refine h5.keep hc (fun b hb1 hb2 => p7 b (by omega) (by omega) (hno b hb2)) (by omega) (fun i hi => ?_)
    try dsimp only
    rw [if_neg (by omega), if_neg (by omega)]
  · try dsimp only
    rw [if_neg (by omega), if_pos rfl]; exact p2
  · try dsimp only
    rw [if_pos rfl]

theorem Lies.put {w W : World} {rb n₀ : Nat} {ps : List (List Item × Int)} {acc : List Item} {n : Int} {c : Nat} {bs : List Nat} (h : Lies w rb n₀ ps acc n c bs W) (hN : Num ps acc n c) (hrb : rb < w.heap.size) (hn : n₀ ≤ rb) (x : Item) (hx : x.kids = []) (c' : Nat) (hc : c ≤ c') :
    Calls Tryz.prog 168 #[.pointer (some ⟨w.heap.size, ps.length * 2, none⟩), aggOf x (.slice none 0 0)] W fun e W' => e = .returned (.tuple #[]) ∧ Lies w rb n₀ ps (acc ++ [x]) (n - 1) c' bs W' := by
  have hlow := hN.low
  obtain ⟨B, f, lo, h1, h2, h3, h4, h5, h6, h7, h8⟩ := h
  obtain ⟨n1, n2, n3, n4, n5, n6⟩ := hN
  have hl := h5.le
  refine (put_calls x none 0 0 w.heap.size ps.length lo W.heap.size f _ n acc W h3 n2 rfl h8 (by omega) h7 h6 (by omega) (by omega) (.nil none 0 _ (fun _ => rfl) hx)).mono ?_
  rintro e W' ⟨he, hP⟩
  exact ⟨he, Lies.putDone hrb hn hc h1 h2 h4 h5 h6 (fun b hb => (h7.own b hb).1) hP⟩

/-- The innermost part is done: its items are put into the one ahead. -/
theorem Lies.close {w W : World} {rb n₀ : Nat} {ps : List (List Item × Int)} {a acc : List Item} {t n : Int} {c : Nat} {bs : List Nat} (h : Lies w rb n₀ ((a, t) :: ps) acc n c bs W) (hN : Num ((a, t) :: ps) acc n c) (hrb : rb < w.heap.size) (hn : n₀ ≤ rb) :
    ∃ Au lu cu, W.cell? ⟨w.heap.size, (ps.length + 1) * 2, none⟩ = some (.slice Au lu cu) ∧ Num ps (a ++ [.mk 2 0 noT acc]) (t - 1) c ∧
    Calls Tryz.prog 168 #[.pointer (some ⟨w.heap.size, ps.length * 2, none⟩), aggOf (.mk 2 0 noT acc) (.slice Au lu cu)] W fun e W' => e = .returned (.tuple #[]) ∧ Lies w rb n₀ ps (a ++ [.mk 2 0 noT acc]) (t - 1) c bs W' := by
  obtain ⟨B, f, lo, h1, h2, h3, h4, ⟨lo', k1, k2, k3, k4, k5, k6, k7, k8⟩, h6, h7, h8⟩ := h
  obtain ⟨n1, n2, n3, n4, n5, n6⟩ := hN
  have hl := k1.le
  obtain ⟨Au, cu, hv, _⟩ := h7.form
  simp only [List.length_cons] at hv h7 n2
  refine ⟨Au, acc.length, cu, ?_, ⟨n1, by omega, by simp; omega, by omega, fun hp => by rw [k7 hp]; simp; omega, fun hp => by have := k8 hp; omega⟩, ?_⟩
  · rw [← hv]; exact (h3 ((ps.length + 1) * 2) (by omega)).1
  have hu : Items (fun b => lo' ≤ b ∧ b < W.heap.size ∧ (f (ps.length * 2)).ownBlock ≠ some b) W (.slice Au acc.length cu) (Item.kids (.mk 2 0 noT acc)) := by
    rw [← hv]
    exact h7.items.mono (fun b hb => ⟨by omega, hb.2, fun e => by have := (k3.own b e).2; omega⟩)
  have hlow : -9223372036854775807 ≤ t := by
    by_cases hp : ps = []
    · have := k7 hp; omega
    · have := k8 hp; omega
  have k3' : Grow lo' lo W (f (ps.length * 2)) a := k3
  refine (put_calls (.mk 2 0 noT acc) Au acc.length cu w.heap.size ps.length lo' lo f _ t a W h3 (by omega) rfl k4 ⟨hlow, k6⟩ k3' k2 (by omega) (by omega) hu).mono ?_
  rintro e W' ⟨he, hP⟩
  exact ⟨he, Lies.putDone hrb hn (Nat.le_refl _) h1 h2 h4 k1 (by omega) (fun b hb => (k3.own b hb).1) hP⟩

set_option maxHeartbeats 1000000 in
/-- A list is begun. -/
theorem Lies.push {w W : World} {rb n₀ : Nat} {ps : List (List Item × Int)} {acc : List Item} {n : Int} {c m : Nat} {bs : List Nat} (h : Lies w rb n₀ ps acc n c bs W) (hN : Num ps acc n c) (hM : ps = [] ∨ 0 < n) (hrb : rb < w.heap.size) (hn : n₀ ≤ rb) (hd : ps.length < 8) (hc : c < 4096) (hm : m ≤ 9223372036854775807) :
    Num ((acc, n) :: ps) [] m (c + 1) ∧ Lies w rb n₀ ((acc, n) :: ps) [] m (c + 1) bs ((W.setCell ⟨w.heap.size, (ps.length + 1) * 2, none⟩ (.slice none 0 0)).setCell ⟨w.heap.size, (ps.length + 1) * 2 + 1, none⟩ (.int .i64 (m : Nat))) := by
  obtain ⟨B, f, lo, h1, h2, h3, h4, h5, h6, h7, h8⟩ := h
  obtain ⟨n1, n2, n3, n4, n5, n6⟩ := hN
  have hl := h5.le
  have hblk : ∀ b, b ≠ w.heap.size → ((W.setCell ⟨w.heap.size, (ps.length + 1) * 2, none⟩ (.slice none 0 0)).setCell ⟨w.heap.size, (ps.length + 1) * 2 + 1, none⟩ (.int .i64 (m : Nat))).heap[b]? = W.heap[b]? := fun b hb => by
    rw [Below.heap_setCell _ _ _ _ hb, Below.heap_setCell _ _ _ _ hb]
  have hsz : ((W.setCell ⟨w.heap.size, (ps.length + 1) * 2, none⟩ (.slice none 0 0)).setCell ⟨w.heap.size, (ps.length + 1) * 2 + 1, none⟩ (.int .i64 (m : Nat))).heap.size = W.heap.size := by simp [World.setCell]
  have hP := (h3.set ((ps.length + 1) * 2) (by omega) (.slice none 0 0)).set ((ps.length + 1) * 2 + 1) (by omega) (.int .i64 (m : Nat))
  have hB0 : Below w.heap.size W ((W.setCell ⟨w.heap.size, (ps.length + 1) * 2, none⟩ (.slice none 0 0)).setCell ⟨w.heap.size, (ps.length + 1) * 2 + 1, none⟩ (.int .i64 (m : Nat))) :=
    ((Below.refl w.heap.size W).setCell (p := ⟨w.heap.size, (ps.length + 1) * 2, none⟩) (Nat.le_refl w.heap.size) (.slice none 0 0)).setCell (p := ⟨w.heap.size, (ps.length + 1) * 2 + 1, none⟩) (Nat.le_refl w.heap.size) (.int .i64 (m : Nat))
  obtain ⟨W', hW'⟩ : ∃ W', ((W.setCell ⟨w.heap.size, (ps.length + 1) * 2, none⟩ (.slice none 0 0)).setCell ⟨w.heap.size, (ps.length + 1) * 2 + 1, none⟩ (.int .i64 (m : Nat))) = W' := ⟨_, rfl⟩
  rw [hW'] at hblk hsz hP hB0 ⊢
  clear hW'
  refine ⟨⟨by omega, by simp; omega, by simp, by omega, fun h => by simp at h, fun _ => by omega⟩, B, _, W.heap.size, (hB0.block rb hrb).trans h1, h2.below (hB0.mono (by omega)), hP, ?_, ⟨lo, ?_, h6, ?_, ?_, by omega, n4, n5, fun hp => ?_⟩, by omega, ?_, ?_⟩
  · exact ⟨hB0.os.trans h4.os, hB0.tape.trans h4.tape, hB0.output.trans h4.output, Nat.le_trans h4.size hB0.size, fun b hb hne => (hB0.block b hb).trans (h4.block b hb hne)⟩
  · refine h5.keep (by omega) (fun b hb1 hb2 => hblk b (by omega)) (by omega) (fun i hi => ?_)
    try dsimp only
    rw [if_neg (by omega), if_neg (by omega)]
  · try dsimp only
    rw [if_neg (by omega), if_neg (by omega)]
    exact h7.keep (fun b hb1 hb2 => hblk b (by omega)) (Nat.le_refl _) (by omega)
  · try dsimp only
    rw [if_neg (by omega), if_neg (by omega)]; exact h8
  · rcases hM with h | h
    · exact absurd h hp
    · omega
  · simp only [List.length_cons]
    try dsimp only
    rw [if_neg (by omega)]
    simp only [if_true]
    rw [hsz]
    exact Grow.nil _ _ _ (by rw [hsz]; exact Nat.le_refl _)
  · simp only [List.length_cons]
    try dsimp only
    simp only [if_true]

end Go.Proofs.YtdikmlnpclklnaaGreatDoor.Wire

/-
  Contracts of Clone, copied, Int, Text and List.
-/
namespace Go.Proofs.YtdikmlnpclklnaaGreatDoor.Wire
open Go Go.RowKit Go.Proofs.YtdikmlnpclklnaaGreatDoor.Law

mutual
/-- All lists are short enough to be copied. -/
def Item.roomy : Item → Prop
  | .mk _ _ _ l => l.length * 56 ≤ 140737488355328 ∧ roomyL l
def roomyL : List Item → Prop
  | [] => True
  | x :: r => x.roomy ∧ roomyL r
end
theorem roomyL_get : ∀ {l : List Item} {k : Nat} {x : Item}, l[k]? = some x → roomyL l → x.kids.length * 56 ≤ 140737488355328 ∧ roomyL x.kids
  | [], k, x, h, _ => by simp at h
  | y :: r, 0, x, h, hf => by simp at h; subst h; rw [roomyL] at hf; have := hf.1; cases y; rw [Item.roomy] at this; exact this
  | y :: r, k + 1, x, h, hf => by rw [roomyL] at hf; exact roomyL_get (l := r) (k := k) (by simpa using h) hf.2

/-- Items in memory that is new since w. -/
def Fresh (w W : World) (v : Value) (l : List Item) : Prop := Items (fun b => w.heap.size ≤ b ∧ b < W.heap.size) W v l ∧ Below w.heap.size w W
def RetFresh (w : World) (l : List Item) (e : Ending) (W : World) : Prop := ∃ v, e = .returned v ∧ Fresh w W v l

theorem Fresh.mono {w W W' : World} {v : Value} {l : List Item} (h : Fresh w W v l) (hB : Below W.heap.size W W') : Fresh w W' v l :=
  ⟨h.1.keep (fun b hb => hB.block b hb.2) (fun _ hb => ⟨hb.1, Nat.lt_of_lt_of_le hb.2 hB.size⟩), h.2.trans (hB.mono h.2.size)⟩

def RetEmpty (w : World) (e : Ending) (W : World) : Prop := ∃ g c, e = .returned (.slice (some ⟨g, 0, none⟩) 0 c) ∧ Below w.heap.size w W

end Go.Proofs.YtdikmlnpclklnaaGreatDoor.Wire

/-
  Contracts of Int, Text and List; the chapter's example.
-/
namespace Go.Proofs.YtdikmlnpclklnaaGreatDoor.Wire
open Go Go.RowKit Go.Proofs.YtdikmlnpclklnaaGreatDoor.Law

/-- The empty text. -/
abbrev noText : ByteArray := ⟨#[]⟩

set_option maxRecDepth 100000 in
theorem int_calls (n : Int) (w : World) : Calls Tryz.prog 96 #[.int .i64 n] w fun e W => e = .returned (.agg #[.int .i64 0, .int .i64 n, .string noText, .slice none 0 0]) ∧ Below w.heap.size w W := by
  go_enter Tryz.func96, Tryz.ntmps96
  go_wp2
  exact bodyPost_ret (v := .agg #[.int .i64 0, .int .i64 n, .string noText, .slice none 0 0]) (by simp [results, Tryz.results96, go_sem]) rfl ⟨rfl, (Below.refl _ _).alloc (Nat.le_refl _) _⟩

set_option maxRecDepth 100000 in
theorem text_calls (s : ByteArray) (w : World) : Calls Tryz.prog 97 #[.string s] w fun e W => e = .returned (.agg #[.int .i64 1, .int .i64 0, .string s, .slice none 0 0]) ∧ Below w.heap.size w W := by
  go_enter Tryz.func97, Tryz.ntmps97
  go_wp2
  exact bodyPost_ret (v := .agg #[.int .i64 1, .int .i64 0, .string s, .slice none 0 0]) (by simp [results, Tryz.results97, go_sem]) rfl ⟨rfl, (Below.refl _ _).alloc (Nat.le_refl _) _⟩

def RetList (w : World) (l : List Item) (e : Ending) (W : World) : Prop := ∃ v, e = .returned (.agg #[.int .i64 2, .int .i64 0, .string noText, v]) ∧ Fresh w W v l

/-- The chapter's example, as items. -/
def exampleL : List Item := [.mk 0 5 noText [], .mk 0 (-1) noText [], .mk 1 0 ⟨#[97]⟩ [], .mk 2 0 noText [.mk 0 0 noText []]]
theorem example_enc : encN exampleL = ([0, 10, 0, 1, 1, 1, 97, 2, 1, 0, 0], 0) := by decide +kernel
theorem example_sized : sizedL exampleL := by
  simp [exampleL, sizedL, Item.sized]
  decide

theorem cell_new (w : World) (cs : Array Value) (t : TypeId) (i : Nat) (v : Value) (h : cs[i]? = some v) : (w.alloc (.cells cs t)).cell? ⟨w.heap.size, i, none⟩ = some v := by
  unfold World.cell?
  rw [heap_alloc_new]
  exact h

theorem one_zero (w : World) : Old (w.heap.size + 1) (w.alloc (.cells #[.int .i64 0, .int .i64 0, .string noText, .slice none 0 0] 145)) (.slice (some ⟨w.heap.size, 0, none⟩) 1 1) [.mk 0 0 noText []] := by
  refine .row w.heap.size 0 1 1 _ (fun _ => .slice none 0 0) rfl (Nat.le_refl _) (fun _ => Nat.lt_succ_self _) (fun j x hx => ?_) (fun j x hx => ?_)
  · match j, hx with
    | 0, hx => simp at hx; subst hx; exact ⟨cell_new _ _ _ _ _ rfl, cell_new _ _ _ _ _ rfl, cell_new _ _ _ _ _ rfl, cell_new _ _ _ _ _ rfl⟩
  · match j, hx with
    | 0, hx => simp at hx; subst hx; exact .nil none 0 _ (fun _ => rfl) rfl

theorem four_items (w : World) (v : Value) (h : Old w.heap.size w v [.mk 0 0 noText []]) :
    Old (w.heap.size + 1) (w.alloc (.cells #[.int .i64 0, .int .i64 5, .string noText, .slice none 0 0, .int .i64 0, .int .i64 (-1), .string noText, .slice none 0 0, .int .i64 1, .int .i64 0, .string ⟨#[97]⟩, .slice none 0 0, .int .i64 2, .int .i64 0, .string noText, v] 145)) (.slice (some ⟨w.heap.size, 0, none⟩) 4 4) exampleL := by
  have hk := Items.more (Nat.le_succ w.heap.size) (Items.low ((Below.refl w.heap.size w).alloc (Nat.le_refl _) (.cells #[.int .i64 0, .int .i64 5, .string noText, .slice none 0 0, .int .i64 0, .int .i64 (-1), .string noText, .slice none 0 0, .int .i64 1, .int .i64 0, .string ⟨#[97]⟩, .slice none 0 0, .int .i64 2, .int .i64 0, .string noText, v] 145)) h)
  refine .row w.heap.size 0 4 4 _ (fun j => if j = 3 then v else .slice none 0 0) rfl (Nat.le_refl _) (fun _ => Nat.lt_succ_self _) (fun j x hx => ?_) (fun j x hx => ?_)
  · match j, hx with
    | 0, hx => simp [exampleL] at hx; subst hx; exact ⟨cell_new _ _ _ _ _ rfl, cell_new _ _ _ _ _ rfl, cell_new _ _ _ _ _ rfl, cell_new _ _ _ _ _ rfl⟩
    | 1, hx => simp [exampleL] at hx; subst hx; exact ⟨cell_new _ _ _ _ _ rfl, cell_new _ _ _ _ _ rfl, cell_new _ _ _ _ _ rfl, cell_new _ _ _ _ _ rfl⟩
    | 2, hx => simp [exampleL] at hx; subst hx; exact ⟨cell_new _ _ _ _ _ rfl, cell_new _ _ _ _ _ rfl, cell_new _ _ _ _ _ rfl, cell_new _ _ _ _ _ rfl⟩
    | 3, hx => simp [exampleL] at hx; subst hx; exact ⟨cell_new _ _ _ _ _ rfl, cell_new _ _ _ _ _ rfl, cell_new _ _ _ _ _ rfl, cell_new _ _ _ _ _ rfl⟩
    | j + 4, hx => simp [exampleL] at hx
  · match j, hx with
    | 0, hx => simp [exampleL] at hx; subst hx; exact .nil none 0 _ (fun _ => rfl) rfl
    | 1, hx => simp [exampleL] at hx; subst hx; exact .nil none 0 _ (fun _ => rfl) rfl
    | 2, hx => simp [exampleL] at hx; subst hx; exact .nil none 0 _ (fun _ => rfl) rfl
    | 3, hx => simp [exampleL] at hx; subst hx; exact hk
    | j + 4, hx => simp [exampleL] at hx

end Go.Proofs.YtdikmlnpclklnaaGreatDoor.Wire

/-
  What is encoded is read back as it was: plain facts.
-/
namespace Go.Proofs.YtdikmlnpclklnaaGreatDoor.Wire
open Go Go.Proofs.YtdikmlnpclklnaaGreatDoor.Law

theorem rdNum_numF : ∀ (f i n acc : Nat) (rest : List Nat), i + f = 9 → (0 < i → 0 < n) → n * 128 ^ i < 18446744073709551616 → rdNum i acc (numF f n ++ rest) = .ok (acc + n * 128 ^ i, rest) := by
  intro f
  induction f with
  | zero =>
    intro i n acc rest hi hp hn
    obtain rfl : i = 9 := by omega
    have e9 : 128 ^ 9 = 9223372036854775808 := by decide
    rw [e9] at hn ⊢
    have h1 : n ≤ 1 := by omega
    rw [numF, List.singleton_append, rdNum, if_neg (by omega), if_pos (by omega), e9, Nat.mod_eq_of_lt (by omega)]
  | succ f ih =>
    intro i n acc rest hi hp hn
    rw [numF]
    split
    · rename_i hlt
      rw [List.singleton_append, rdNum, if_neg (by omega), if_pos hlt, Nat.mod_eq_of_lt hlt]
    · rename_i hge
      rw [List.cons_append, rdNum, if_neg (by omega), if_neg (by omega)]
      have e : 128 ^ (i + 1) = 128 * 128 ^ i := by rw [Nat.pow_succ, Nat.mul_comm]
      have hdm : n / 128 * 128 + n % 128 = n := by omega
      have hmul : n / 128 * 128 ^ (i + 1) + n % 128 * 128 ^ i = n * 128 ^ i := by
        rw [e, ← Nat.mul_assoc, ← Nat.add_mul, hdm]
      rw [ih (i + 1) (n / 128) _ rest (by omega) (fun _ => by omega) (by omega)]
      rw [show (n % 128 + 128) % 128 = n % 128 by omega, Nat.add_assoc, Nat.add_comm (n % 128 * 128 ^ i), hmul]

theorem rdNum_num {n : Nat} (h : n < 18446744073709551616) (rest : List Nat) : rdNum 0 0 (num n ++ rest) = .ok (n, rest) := by
  have := rdNum_numF 9 0 n 0 rest rfl (fun h => absurd h (by omega)) (by simpa using h)
  simpa [num] using this

theorem unzig_zig (n : Int) : unzig (zig n) = n := by
  unfold unzig zig
  split <;> split <;> omega

theorem str_sb (s : ByteArray) : str (sb s) = s := by
  unfold str sb
  rw [List.map_map]
  have : (UInt8.ofNat ∘ UInt8.toNat) = id := by funext x; simp
  rw [this, List.map_id, Array.toArray_toList]

theorem noT_of {s : ByteArray} (h : s.size = 0) : s = noT := by
  have : s.data = #[] := Array.eq_empty_of_size_eq_zero h
  cases s
  simp only at this
  subst this
  rfl

theorem form_cases {k n : Int} {s : ByteArray} {l : List Item} (h : Item.form (.mk k n s l) = true) :
    (k = 0 ∧ s = noT ∧ l = []) ∨ (k = 1 ∧ n = 0 ∧ l = []) ∨ (k = 2 ∧ n = 0 ∧ s = noT) := by
  replace h : (if k = 0 then decide (s.size = 0) && decide (l.length = 0) else if k = 1 then decide (n = 0) && decide (l.length = 0) else if k = 2 then decide (n = 0) && decide (s.size = 0) else false) = true := h
  by_cases h0 : k = 0
  · rw [if_pos h0] at h
    simp only [Bool.and_eq_true, decide_eq_true_eq] at h
    exact .inl ⟨h0, noT_of h.1, List.eq_nil_of_length_eq_zero h.2⟩
  · rw [if_neg h0] at h
    by_cases h1 : k = 1
    · rw [if_pos h1] at h
      simp only [Bool.and_eq_true, decide_eq_true_eq] at h
      exact .inr (.inl ⟨h1, h.1, List.eq_nil_of_length_eq_zero h.2⟩)
    · rw [if_neg h1] at h
      by_cases h2 : k = 2
      · rw [if_pos h2] at h
        simp only [Bool.and_eq_true, decide_eq_true_eq] at h
        exact .inr (.inr ⟨h2, h.1, noT_of h.2⟩)
      · rw [if_neg h2] at h; cases h

theorem sb_noT : sb noT = [] := rfl

mutual
theorem rdI_of : ∀ (x : Item) (d c b : Nat) (rest : List Nat), d + b = 9 → x.sized → (chkI d c x).2 = 0 → rdI b c (x.bytes ++ rest) = .ok (x, c + x.nodes, rest)
  | .mk k n s l, d, c, b, rest, hd, hs, h => by
    rw [chkI] at h
    split at h
    · cases h
    · rename_i hf
      split at h
      · cases h
      · rename_i hc
        obtain ⟨b, rfl⟩ : ∃ b', b = b' + 1 := ⟨b - 1, by omega⟩
        have hlist := rdL_of l (d + 1) (c + 1) b
        have hso := sized_of hs
        have hnl := no_lt hs
        simp only [Item.kind, Item.n, Item.s, Item.kids] at hso
        rw [rdI, if_neg (by omega), Item.bytes, List.cons_append, rdHead]
        rcases form_cases (by simpa using hf) with ⟨rfl, rfl, rfl⟩ | ⟨rfl, rfl, rfl⟩ | ⟨rfl, rfl, rfl⟩
        · have hno : Item.no (.mk 0 n noT []) = zig n := rfl
          rw [hno] at hnl ⊢
          rw [if_neg (by decide), List.append_assoc, rdNum_num hnl]
          simp [sb_noT, bytesL, unzig_zig, Item.nodes, nodesL]
        · have hno : Item.no (.mk 1 0 s []) = s.size := rfl
          rw [hno] at hnl ⊢
          rw [if_neg (by decide), List.append_assoc, rdNum_num hnl]
          have hlt : ¬ 9223372036854775807 < s.size := by omega
          have h1 : ¬ (sb s ++ bytesL [] ++ rest).length < s.size := by simp [sb_length]
          have h2 : (sb s ++ bytesL [] ++ rest).take s.size = sb s := by
            rw [List.append_assoc, ← sb_length, List.take_left']; rfl
          have h3 : (sb s ++ bytesL [] ++ rest).drop s.size = rest := by
            rw [show bytesL ([] : List Item) = [] by rfl, List.append_nil, ← sb_length, List.drop_left']; rfl
          simp only [show (1 % 256 : Int).toNat = 1 by rfl, hlt, and_false, if_false, h1, h2, h3, str_sb, show ¬ (1 = 0) by omega, if_true]
          simp [Item.nodes, nodesL]
        · have hno : Item.no (.mk 2 0 noT l) = l.length := rfl
          rw [hno] at hnl ⊢
          rw [if_neg (by decide), List.append_assoc, rdNum_num hnl]
          have hlt : ¬ 9223372036854775807 < l.length := by omega
          have hl2 := hlist rest [] (by omega) (sized_kids hs) h
          simp only [show (2 % 256 : Int).toNat = 2 by rfl, hlt, and_false, if_false, show ¬ (2 = 0) by omega, show ¬ (2 = 1) by omega, sb_noT, List.nil_append, hl2]
          simp [Item.nodes]
          omega
theorem rdL_of : ∀ (l : List Item) (d c b : Nat) (rest : List Nat) (acc : List Item), d + b = 9 → sizedL l → (chkL d c l).2 = 0 → rdL (rdI b) l.length c (bytesL l ++ rest) acc = .ok (acc ++ l, c + nodesL l, rest)
  | [], d, c, b, rest, acc, hd, hs, h => by simp [rdL, bytesL, nodesL]
  | x :: r, d, c, b, rest, acc, hd, hs, h => by
    rw [sizedL] at hs
    rw [chkL] at h
    split at h
    · rename_i h0; exact absurd h h0
    · rename_i h0
      have h0' : (chkI d c x).2 = 0 := by simpa using h0
      have h1 := rdI_of x d c b (bytesL r ++ rest) hd hs.1 h0'
      have hn := (chkI_ok d c x h0').1
      rw [hn] at h
      have h2 := rdL_of r d (c + x.nodes) b rest (acc ++ [x]) hd hs.2 h
      rw [List.length_cons, rdL, bytesL, List.append_assoc, h1]
      simp only [h2, nodesL, List.append_assoc, List.singleton_append, Nat.add_assoc]
end

theorem rdTop_of : ∀ (l : List Item) (f c : Nat) (acc : List Item), 4097 ≤ f + c → sizedL l → (chkL 1 c l).2 = 0 → c ≤ 4096 → rdTop f c (bytesL l) acc = .ok (acc ++ l)
  | [], f, c, acc, hf, hs, h, hc => by
    obtain ⟨f, rfl⟩ : ∃ f', f = f' + 1 := ⟨f - 1, by omega⟩
    rw [rdTop, bytesL, if_pos rfl, List.append_nil]
  | x :: r, f, c, acc, hf, hs, h, hc => by
    obtain ⟨f, rfl⟩ : ∃ f', f = f' + 1 := ⟨f - 1, by omega⟩
    rw [sizedL] at hs
    rw [chkL] at h
    split at h
    · rename_i h0; exact absurd h h0
    · rename_i h0
      have h0' : (chkI 1 c x).2 = 0 := by simpa using h0
      have h1 := rdI_of x 1 c 8 (bytesL r) rfl hs.1 h0'
      have hn := chkI_ok 1 c x h0'
      rw [hn.1] at h
      have hpos : 0 < x.nodes := by cases x; rw [Item.nodes]; omega
      have h2 := rdTop_of r f (c + x.nodes) (acc ++ [x]) (by omega) hs.2 h hn.2.2
      rw [rdTop, if_neg (by rw [bytesL, bytes_eq]; simp), bytesL, h1]
      simp only [h2, List.append_assoc, List.singleton_append]

/-- What is encoded is decoded. -/
theorem dec_enc {l : List Item} (hs : sizedL l) (h : (encN l).2 = 0) : decN (encN l).1 = .ok l := by
  unfold encN at h ⊢
  split at h
  · rename_i h0; exact absurd h h0
  · rename_i h0
    rw [if_neg h0]
    split at h
    · cases h
    · rename_i h1
      rw [if_neg h1]
      unfold decN
      rw [if_neg h1, rdTop_of l 4097 0 [] (by omega) hs (by simpa using h0) (by omega)]
      simp

/-- Two messages have one text just if they are the same. -/
theorem enc_inj {l m : List Item} (hl : sizedL l) (hm : sizedL m) (h1 : (encN l).2 = 0) (h2 : (encN m).2 = 0) (h : (encN l).1 = (encN m).1) : l = m := by
  have e1 := dec_enc hl h1
  have e2 := dec_enc hm h2
  rw [h, e2] at e1
  exact (Except.ok.inj e1).symm

/-- The text that was decoded, or none. -/
def decOf : Except Nat (List Item) → List Item × Nat
  | .ok l => (l, 0)
  | .error k => ([], k)
def decR (bs : List Nat) : List Item × Nat := decOf (decN bs)

end Go.Proofs.YtdikmlnpclklnaaGreatDoor.Wire

/-
  The program's own reading of a message.
-/
namespace Go.Proofs.YtdikmlnpclklnaaGreatDoor.Wire
open Go Go.RowKit Go.Proofs.YtdikmlnpclklnaaGreatDoor.Law

/-- What message answers. -/
def MsgRead (w : World) (rb : Nat) (R : List Item × Nat) (e : Ending) (W : World) : Prop :=
  ∃ u, e = .returned (.tuple #[u, .int .i64 (R.2 : Nat)]) ∧ w.grownBy W (some rb) ∧ Items (fun b => w.heap.size ≤ b ∧ b < W.heap.size) W u R.1

/-- What lies ahead of an item of the message. -/
def MS (w : World) (rb n₀ : Nat) (RT : Except Nat (List Item)) (ps : List (List Item × Int)) (acc : List Item) (n : Int) (c : Nat) (W : World) : Prop :=
  ∃ bs, unw ps acc n c bs = RT ∧ bs.length ≤ 65536 ∧ Num ps acc n c ∧ Lies w rb n₀ ps acc n c bs W

theorem Lies.rest_cell {w W : World} {rb n₀ : Nat} {ps : List (List Item × Int)} {acc : List Item} {n : Int} {c : Nat} {bs : List Nat} (h : Lies w rb n₀ ps acc n c bs W) :
    ∃ A cap, W.cell? ⟨rb, 0, none⟩ = some (.slice A bs.length cap) ∧ Rdr W rb (.slice A bs.length cap) ∧ Bytes n₀ W (.slice A bs.length cap) bs := by
  obtain ⟨B, f, lo, h1, h2, _⟩ := h
  obtain ⟨A, cap, rfl⟩ := h2.form
  exact ⟨A, cap, h1.cells.1, h1, h2⟩
theorem Lies.part_cells {w W : World} {rb n₀ : Nat} {ps : List (List Item × Int)} {acc : List Item} {n : Int} {c : Nat} {bs : List Nat} (h : Lies w rb n₀ ps acc n c bs W) (hd : ps.length ≤ 8) :
    W.cell? ⟨w.heap.size, ps.length * 2 + 1, none⟩ = some (.int .i64 n) ∧ (∃ A cap, W.cell? ⟨w.heap.size, ps.length * 2, none⟩ = some (.slice A acc.length cap) ∧ Items (fun b => w.heap.size ≤ b ∧ b < W.heap.size) W (.slice A acc.length cap) acc) ∧
      (ps.length < 8 → ∀ j, j < 2 → W.frozen? ⟨w.heap.size, (ps.length + 1) * 2 + j, none⟩ = false ∧ ∃ v, W.cell? ⟨w.heap.size, (ps.length + 1) * 2 + j, none⟩ = some v) := by
  obtain ⟨B, f, lo, h1, h2, h3, h4, h5, h6, h7, h8⟩ := h
  have hl := h5.le
  refine ⟨?_, ?_, fun hlt j hj => ⟨(h3 _ (by omega)).2, _, (h3 _ (by omega)).1⟩⟩
  · rw [← h8]; exact (h3 _ (by omega)).1
  · obtain ⟨A, cap, hv, _⟩ := h7.form
    refine ⟨A, cap, by rw [← hv]; exact (h3 _ (by omega)).1, ?_⟩
    rw [← hv]
    exact h7.items.mono (fun b hb => ⟨by omega, hb.2⟩)
theorem Num.more {ps : List (List Item × Int)} {acc : List Item} {n : Int} {c : Nat} {bs : List Nat} (h : Num ps acc n c) (hM : More ps n bs) (hc : c < 4096) (x : Item) : Num ps (acc ++ [x]) (n - 1) (c + 1) := by
  obtain ⟨h1, h2, h3, h4, h5, h6⟩ := h
  refine ⟨by omega, h2, by simp; omega, by omega, fun hp => by rw [h5 hp]; simp; omega, fun hp => by have := hM.2 hp; omega⟩
theorem Lies.grown {w W : World} {rb n₀ : Nat} {ps : List (List Item × Int)} {acc : List Item} {n : Int} {c : Nat} {bs : List Nat} (h : Lies w rb n₀ ps acc n c bs W) : w.grownBy W (some rb) := by
  obtain ⟨B, f, lo, h1, h2, h3, h4, _⟩ := h; exact h4

/-- The parts as they are made. -/
abbrev zero18 : Array Value := #[.slice none 0 0, .int .i64 0, .slice none 0 0, .int .i64 0, .slice none 0 0, .int .i64 0, .slice none 0 0, .int .i64 0, .slice none 0 0, .int .i64 0, .slice none 0 0, .int .i64 0, .slice none 0 0, .int .i64 0, .slice none 0 0, .int .i64 0, .slice none 0 0, .int .i64 0]
theorem zero_parts : (Tryz.prog.info? 232).map (fun i => i.zero) = some (some (.agg zero18)) := by kernel_rfl

theorem zero18_at : ∀ i : Fin 18, (zero18)[i.val]? = some (zero18.getD i.val undef) := by intro i; simp [Array.getD]
theorem parts_new (w : World) : PB (w.alloc (.cells zero18 232)) w.heap.size (fun i => zero18.getD i undef) := fun i hi => by
  have h := heap_alloc_new w (.cells zero18 232)
  refine ⟨?_, ?_⟩
  · unfold World.cell?
    rw [h]
    exact zero18_at ⟨i, hi⟩
  · unfold World.frozen?
    rw [h]
    simp

theorem lies_new {w : World} {rb n₀ : Nat} {B : Value} {bs : List Nat} (hR : Rdr w rb B) (hI : Bytes n₀ w B bs) (hn : n₀ ≤ rb) : Lies w rb n₀ [] [] 0 0 bs (w.alloc (.cells zero18 232)) := by
  have hrb := lt_of_some hR
  have hB := (Below.refl w.heap.size w).alloc (Nat.le_refl _) (.cells zero18 232)
  refine ⟨B, fun i => zero18.getD i undef, w.heap.size + 1, (hB.block rb hrb).trans hR, hI.below (hB.mono (by omega)), parts_new w, World.grownBy_alloc _ _ _, Nat.le_refl _, by simp, ?_, rfl⟩
  have : (fun i => zero18.getD i undef) (([] : List (List Item × Int)).length * 2) = .slice none 0 0 := rfl
  rw [this]
  exact Grow.nil _ _ _ (Nat.le_refl _)

set_option maxRecDepth 100000 in
set_option maxHeartbeats 8000000 in
theorem message_calls (rb n₀ : Nat) (B : Value) (bs : List Nat) (hlen0 : bs.length ≤ 65536) (w : World) (hR : Rdr w rb B) (hI : Bytes n₀ w B bs) (hn : n₀ ≤ rb) :
    Calls Tryz.prog 142 #[.pointer (some ⟨rb, 0, none⟩)] w (MsgRead w rb (decOf (unw [] [] 0 0 bs))) := by
  obtain ⟨RT, hRT⟩ : ∃ RT, unw [] [] 0 0 bs = RT := ⟨_, rfl⟩
  rw [hRT]
  have hrb : rb < w.heap.size := lt_of_some hR
  obtain ⟨pb, hpb⟩ : ∃ pb, w.heap.size = pb := ⟨_, rfl⟩
  have hL0 := lies_new hR hI hn
  have HRT := Lib.hid hRT
  have HL0 := Lib.hid hL0
  have HPB := Lib.hid hpb
  clear hRT hR hI
  rw [hpb] at hrb
  go_enter Tryz.func142, Tryz.ntmps142
  go_wp2_with fail
  go_step3
  go_wp2_with (refine wpList_alloc_ran (o := ⟨some 4, _, _, _, _, _⟩) rfl _ rfl zero_parts rfl ?_)
  clear hpb hL0
  go_step3
  go_wp2_with fail
  go_loopw [5, 6] (fun d m wr => ∃ ps acc n c, d = .int .i64 ((ps : List (List Item × Int)).length : Nat) ∧ m = .int .i64 ((c : Nat) : Int) ∧ MS w rb n₀ RT ps acc n c wr) (fun d m _ => 3 * (4096 - (intOf m).toNat) + (intOf d).toNat)
  case atStart => exact ⟨[], [], 0, 0, rfl, rfl, bs, HRT.out, hlen0, ⟨by omega, by simp, by simp, by omega, fun _ => rfl, fun h => absurd rfl h⟩, HL0.out⟩
  case round =>
    obtain ⟨ps, acc, n, c, rfl, rfl, bs, hU, hlen, hN, hL⟩ := hrel
    obtain ⟨A, cap, r0, hRd, hBy⟩ := hL.rest_cell
    obtain ⟨i1, ⟨Ap, cp, i0, hIt⟩, hnx⟩ := hL.part_cells hN.2.1
    have hNlow := hN.low
    obtain ⟨n1, n2, n3, n4, n5, n6⟩ := id hN
    obtain ⟨d, hd⟩ : ∃ d, ps.length = d := ⟨_, rfl⟩
    obtain ⟨lb, hlb⟩ : ∃ lb, bs.length = lb := ⟨_, rfl⟩
    rw [HPB.out] at i1 i0 hnx
    rw [hd] at i1 i0 hnx n2 ⊢
    rw [hlb] at r0 hRd hBy hlen
    have HU := Lib.hid hU
    have HN := Lib.hid hN
    have HL := Lib.hid hL
    have HRD := Lib.hid hRd
    have HBY := Lib.hid hBy
    have HIT := Lib.hid hIt
    have HNX := Lib.hid hnx
    have HD := Lib.hid hd
    have HLB := Lib.hid hlb
    have H5 := Lib.hid n5
    have H6 := Lib.hid n6
    clear hU hN hL hRd hBy hIt hnx hd hlb n5 n6
    have hdI : (d : Int) ≤ 8 := by omega
    have hd9 : (d : Int) < 9 := by omega
    by_cases hdone : ps = [] ∧ bs = []
    · obtain ⟨rfl, rfl⟩ := hdone
      obtain rfl : d = 0 := by simpa using HD.out.symm
      obtain rfl : lb = 0 := by simpa using HLB.out.symm
      have hRT2 : RT = .ok acc := by rw [← HU.out]; exact unw_done acc n c n1
      have HRT2 := Lib.hid hRT2
      clear hRT2
      go_wp2_with fail
      go_ret2
      rw [HRT2.out]
      exact ⟨_, rfl, HL.out.grown, HIT.out⟩
    · by_cases hcl : ps ≠ [] ∧ n = 0
      · obtain ⟨hne, rfl⟩ := hcl
        match ps, hne with
        | (a, t) :: ps, _ =>
          obtain ⟨d, rfl⟩ : ∃ d', d = d' + 1 := ⟨d - 1, by have := HD.out; simp at this; omega⟩
          have hd : ps.length = d := by simpa using HD.out
          obtain ⟨Au, lu, cu, q1, q2, q3⟩ := (HL.out.drew (by have := HL.out.grown.size; have := HPB.out; omega)).close HN.out (by have := HPB.out; omega) hn
          have hU2 : unw ps (a ++ [.mk 2 0 noT acc]) (t - 1) c bs = RT := by rw [← unw_close]; exact HU.out
          rw [HPB.out, hd] at q1
          rw [HPB.out, hd] at q3
          change Calls _ _ #[.pointer (some ⟨pb, d * 2, none⟩), .agg #[.int .i64 2, .int .i64 0, .string ⟨#[]⟩, .slice Au lu cu]] _ _ at q3
          have HU2 := Lib.hid hU2
          have HQ2 := Lib.hid q2
          have HQ3 := Lib.hid q3
          have e0 : (((d + 1 : Nat) : Int) == 0) = false := by rw [beq_eq_false_iff_ne]; omega
          have e1 : 0 < ((d + 1 : Nat) : Int) := by omega
          have e2 : ((d + 1 : Nat) : Int) - 1 = (d : Int) := by omega
          have HD2 := Lib.hid hd
          clear hU2 q2 q3 hdone hd HD
          go_wp2_with fail
          go_region_with (go_at_call 168; ((with_reducible refine HQ3.out.mono ?_); rintro e W2 ⟨rfl, hL2⟩; have HL2 := Lib.hid hL2; clear hL2))
          all_goals
            go_wp2_with fail
            refine ⟨⟨ps, _, _, c, by rw [HD2.out], rfl, bs, HU2.out, by have := HLB.out; omega, HQ2.out, HL2.out⟩, ?_⟩
            simp [intOf]
      · have hM : More ps n bs := ⟨fun hp hb => hdone ⟨hp, hb⟩, fun hp => by
          have h1 := H6.out hp
          have h2 : n ≠ 0 := fun e => hcl ⟨hp, e⟩
          omega⟩
        have hfacts : (((d : Int) == 0) = true ∧ ((lb : Int) == 0) = false ∧ ¬ 0 < (d : Int)) ∨ (((d : Int) == 0) = false ∧ 0 < (d : Int) ∧ (n == 0) = false) := by
          by_cases hp : ps = []
          · left
            have h1 : d = 0 := by rw [← HD.out, hp]; rfl
            have h2 : lb ≠ 0 := fun e => hM.1 hp (List.length_eq_zero_iff.1 (HLB.out.trans e))
            refine ⟨by rw [beq_iff_eq]; omega, by rw [beq_eq_false_iff_ne]; omega, by omega⟩
          · right
            have h1 : d ≠ 0 := fun e => hp (List.length_eq_zero_iff.1 (HD.out.trans e))
            have h2 := hM.2 hp
            refine ⟨by rw [beq_eq_false_iff_ne]; omega, by omega, by rw [beq_eq_false_iff_ne]; omega⟩
        have HM := Lib.hid hM
        clear hdone hcl hM
        have hpbw : pb ≤ wr.heap.size := by have := HL.out.grown.size; have := HPB.out; omega
        by_cases hlong : c = 4096 ∨ d = 8
        · have hRT2 : RT = .error 2 := by rw [← HU.out]; exact unw_long ps acc n c bs HM.out n1 (by rw [HD.out]; exact n2) (by rw [HD.out]; exact hlong)
          have HRT2 := Lib.hid hRT2
          have hq : ((c : Int) == 4096) = true ∨ (((c : Int) == 4096) = false ∧ ((d : Int) == 8) = true) := by
            by_cases h : c = 4096
            · left; rw [beq_iff_eq]; omega
            · right; exact ⟨by rw [beq_eq_false_iff_ne]; omega, by rw [beq_iff_eq]; omega⟩
          clear hRT2 hlong
          rcases hfacts with ⟨f1, f2, f3⟩ | ⟨f1, f2, f3⟩
          all_goals
            rcases hq with g1 | ⟨g1, g2⟩
          all_goals
            go_wp2_with fail
            go_ret2
            rw [HRT2.out]
            exact ⟨.slice none 0 0, rfl, HL.out.grown, .nil none 0 _ (fun _ => rfl) rfl⟩
        · have hc4 : c < 4096 := by omega
          have hd8 : d < 8 := by omega
          have g1 : ((c : Int) == 4096) = false := by rw [beq_eq_false_iff_ne]; omega
          have g2 : ((d : Int) == 8) = false := by rw [beq_eq_false_iff_ne]; omega
          have cH := head_calls rb n₀ (.slice A lb cap) bs (by have := HLB.out; omega) wr HRD.out HBY.out hn
          obtain ⟨RH, hRH⟩ : ∃ RH, rdHead bs = RH := ⟨_, rfl⟩
          rw [hRH] at cH
          have HCH := Lib.hid cH
          have HRH := Lib.hid hRH
          clear cH hRH hlong
          rcases hfacts with ⟨f1, f2, f3⟩ | ⟨f1, f2, f3⟩
          all_goals
            go_wp2_with fail
            refine HCH.out.mono ?_
            clear HCH r0 i0 i1
            rintro e W2 hN2
            cases RH with
            | error k =>
              obtain ⟨rfl, hk, hG⟩ := hN2
              have hkI : ((k : Int) != 0) = true := by rw [bne_iff_ne]; omega
              have hRT2 : RT = .error k := by rw [← HU.out]; exact unw_head ps acc n c bs HM.out hc4 (by rw [HD.out]; exact hd8) HRH.out
              have HRT2 := Lib.hid hRT2
              have HG := Lib.hid (HL.out.grown.trans hG)
              clear hRT2 hG
              go_wp2_with fail
              go_ret2
              rw [HRT2.out]
              exact ⟨.slice none 0 0, rfl, HG.out, .nil none 0 _ (fun _ => rfl) rfl⟩
            | ok q =>
              obtain ⟨k, m, r⟩ := q
              obtain ⟨rfl, B2, hR2, hI2, hG2, hs2⟩ := hN2
              have hL2 := HL.out.rest (by have := HPB.out; omega) hG2 hs2 hR2 hI2
              obtain ⟨hk2, hm63, hm64, hrl⟩ := head_is HRH.out
              have HL2 := Lib.hid hL2
              have HR2 := Lib.hid hR2
              have HI2 := Lib.hid hI2
              have hrlen : r.length ≤ 65536 := by have := HLB.out; omega
              have hpb2 : pb ≤ W2.heap.size := by omega
              clear hL2 hR2 hI2 hG2 hs2 hrl
              rcases (show k = 0 ∨ k = 1 ∨ k = 2 by omega) with rfl | rfl | rfl
              · have hU2 : unw ps (acc ++ [.mk 0 (unzig m) noT []]) (n - 1) (c + 1) r = RT := by rw [← HU.out]; exact (unw_int ps acc n c bs HM.out hc4 (by rw [HD.out]; exact hd8) HRH.out).symm
                have HU2 := Lib.hid hU2
                clear hU2
                go_wp2_with fail
                refine (signed_calls m hm64 _).mono ?_
                rintro e W3 ⟨rfl, rfl⟩
                go_wp2_with fail
                refine (int_calls _ _).mono ?_
                rintro e W4 ⟨rfl, B4⟩
                have hL4 := HL2.out.below (by omega) B4
                have cP := hL4.put HN.out (by have := HPB.out; omega) hn (.mk 0 (unzig m) noT []) rfl (c + 1) (Nat.le_succ c)
                rw [HPB.out, HD.out] at cP
                change Calls _ _ #[.pointer (some ⟨pb, d * 2, none⟩), .agg #[.int .i64 0, .int .i64 (unzig m), .string ⟨#[]⟩, .slice none 0 0]] _ _ at cP
                have HCP := Lib.hid cP
                clear cP B4 hL4
                go_wp2_with fail
                refine HCP.out.mono ?_
                clear HCP
                rintro e W5 ⟨rfl, hL5⟩
                have HL5 := Lib.hid hL5
                clear hL5
                go_wp2_with fail
                refine ⟨⟨ps, _, _, c + 1, by rw [HD.out], by go_num, r, HU2.out, hrlen, HN.out.more HM.out hc4 _, HL5.out⟩, ?_⟩
                simp [intOf]
                omega
              · by_cases hsh : r.length < m
                · have hRT2 : RT = .error 5 := by rw [← HU.out]; exact unw_end ps acc n c bs HM.out hc4 (by rw [HD.out]; exact hd8) HRH.out hsh
                  have HRT2 := Lib.hid hRT2
                  have cT := text_short rb n₀ m B2 r hrlen W2 HR2.out HI2.out hsh
                  have HCT := Lib.hid cT
                  clear hRT2 cT
                  go_wp2_with fail
                  refine HCT.out.mono ?_
                  clear HCT
                  rintro e W3 ⟨rfl, rfl⟩
                  go_wp2_with fail
                  go_ret2
                  rw [HRT2.out]
                  exact ⟨.slice none 0 0, rfl, HL2.out.grown, .nil none 0 _ (fun _ => rfl) rfl⟩
                · have hU2 : unw ps (acc ++ [.mk 1 0 (str (r.take m)) []]) (n - 1) (c + 1) (r.drop m) = RT := by rw [← HU.out]; exact (unw_text ps acc n c bs HM.out hc4 (by rw [HD.out]; exact hd8) HRH.out hsh).symm
                  have HU2 := Lib.hid hU2
                  have cT := text_long rb n₀ m B2 r hrlen W2 HR2.out HI2.out hn (by omega)
                  have HCT := Lib.hid cT
                  clear hU2 cT
                  go_wp2_with fail
                  refine HCT.out.mono ?_
                  clear HCT
                  rintro e W3 ⟨rfl, hG3, hs3, B3, hR3, hI3⟩
                  have hL3 := HL2.out.rest (by have := HPB.out; omega) hG3 hs3 hR3 hI3
                  have HL3 := Lib.hid hL3
                  have hpb3 : pb ≤ W3.heap.size := by omega
                  have hrl3 : (r.drop m).length ≤ 65536 := by simp; omega
                  obtain ⟨st, hst⟩ : ∃ st, str (r.take m) = st := ⟨_, rfl⟩
                  rw [hst]
                  have hU3 := HU2.out
                  rw [hst] at hU3
                  have HU3 := Lib.hid hU3
                  clear hG3 hs3 hR3 hI3 hL3 HU2 hU3 hst
                  go_wp2_with fail
                  refine (text_calls _ _).mono ?_
                  rintro e W4 ⟨rfl, B4⟩
                  have hL4 := HL3.out.below (by omega) B4
                  have cP := hL4.put HN.out (by have := HPB.out; omega) hn (.mk 1 0 st []) rfl (c + 1) (Nat.le_succ c)
                  rw [HPB.out, HD.out] at cP
                  change Calls _ _ #[.pointer (some ⟨pb, d * 2, none⟩), .agg #[.int .i64 1, .int .i64 0, .string st, .slice none 0 0]] _ _ at cP
                  have HCP := Lib.hid cP
                  clear cP B4 hL4
                  go_wp2_with fail
                  refine HCP.out.mono ?_
                  clear HCP
                  rintro e W5 ⟨rfl, hL5⟩
                  have HL5 := Lib.hid hL5
                  clear hL5
                  go_wp2_with fail
                  refine ⟨⟨ps, _, _, c + 1, by rw [HD.out], by go_num, _, HU3.out, hrl3, HN.out.more HM.out hc4 _, HL5.out⟩, ?_⟩
                  simp [intOf]
                  omega
              · have hm63' := hm63 (by decide)
                have hU2 : unw ((acc, n) :: ps) [] m (c + 1) r = RT := by rw [← HU.out]; exact (unw_list ps acc n c bs HM.out hc4 (by rw [HD.out]; exact hd8) HRH.out).symm
                have hps := HL2.out.push HN.out (by
                  by_cases hp : ps = []
                  · exact .inl hp
                  · exact .inr (HM.out.2 hp)) (by have := HPB.out; omega) hn (by rw [HD.out]; exact hd8) hc4 hm63'
                rw [HPB.out, HD.out] at hps
                obtain ⟨hN3, hL3⟩ := hps
                obtain ⟨_, _, hnx⟩ := HL2.out.part_cells (by rw [HD.out]; exact n2)
                rw [HPB.out, HD.out] at hnx
                obtain ⟨z0, v0, y0⟩ := hnx hd8 0 (by omega)
                obtain ⟨z1, v1, y1⟩ := hnx hd8 1 (by omega)
                rw [Nat.add_zero] at z0 y0
                have HU2 := Lib.hid hU2
                have HN3 := Lib.hid hN3
                have HL3 := Lib.hid hL3
                have hmI : (m : Int) ≤ 9223372036854775807 := by omega
                clear hU2 hN3 hL3 hnx hm63
                go_wp2_with fail
                refine ⟨⟨(acc, n) :: ps, [], m, c + 1, ?_, by go_num, r, HU2.out, hrlen, HN3.out, HL3.out⟩, ?_⟩
                · have := HD.out
                  simp only [List.length_cons, this]
                  go_num
                · simp [intOf]
                  omega

end Go.Proofs.YtdikmlnpclklnaaGreatDoor.Wire

/-
  What is read is what would be written: plain facts.
-/
namespace Go.Proofs.YtdikmlnpclklnaaGreatDoor.Wire
open Go Go.Proofs.YtdikmlnpclklnaaGreatDoor.Law

theorem rdNum_back : ∀ (bs : List Nat) (i n m : Nat) (r : List Nat), i ≤ 9 → (∀ x ∈ bs, x < 256) → rdNum i n bs = .ok (m, r) → ∃ q, m = n + q * 128 ^ i ∧ numF (9 - i) q ++ r = bs ∧ (0 < i → 0 < q)
  | [], i, n, m, r, _, _, h => by simp [rdNum] at h
  | x :: bs, i, n, m, r, hi, hb, h => by
    have hx : x < 256 := hb x (by simp)
    rw [rdNum] at h
    split at h
    · cases h
    · rename_i hbad
      split at h
      · rename_i hs
        simp only [Except.ok.injEq, Prod.mk.injEq] at h
        obtain ⟨rfl, rfl⟩ := h
        refine ⟨x, by rw [Nat.mod_eq_of_lt hs], ?_, fun h0 => ?_⟩
        · have : numF (9 - i) x = [x] := by
            cases 9 - i with
            | zero => rfl
            | succ f => rw [numF, if_pos hs]
          rw [this]; rfl
        · rcases Nat.eq_zero_or_pos x with h1 | h1
          · exact absurd (.inr ⟨h0, h1⟩) hbad
          · exact h1
      · rename_i hs
        have h9 : i ≠ 9 := fun e => hbad (.inl ⟨e, by omega⟩)
        obtain ⟨q, h1, h2, h3⟩ := rdNum_back bs (i + 1) _ m r (by omega) (fun y hy => hb y (by simp [hy])) h
        have hq := h3 (by omega)
        refine ⟨x % 128 + q * 128, ?_, ?_, fun _ => by omega⟩
        · rw [h1, Nat.pow_succ, Nat.add_mul, Nat.mul_assoc q 128, Nat.mul_comm 128 (128 ^ i)]
          omega
        · obtain ⟨f, hf⟩ : ∃ f, 9 - i = f + 1 := ⟨9 - i - 1, by omega⟩
          have hf2 : 9 - (i + 1) = f := by omega
          rw [hf2] at h2
          rw [hf, numF, if_neg (by omega), show (x % 128 + q * 128) % 128 + 128 = x by omega, show (x % 128 + q * 128) / 128 = q by omega, List.cons_append, h2]

theorem num_back {bs : List Nat} {m : Nat} {r : List Nat} (hb : ∀ x ∈ bs, x < 256) (h : rdNum 0 0 bs = .ok (m, r)) : num m ++ r = bs := by
  obtain ⟨q, h1, h2, _⟩ := rdNum_back bs 0 0 m r (by omega) hb h
  have : m = q := by simpa using h1
  subst this
  exact h2

theorem zig_unzig (u : Nat) : zig (unzig u) = u := by
  unfold zig unzig
  split <;> split <;> omega

theorem sb_str {l : List Nat} (h : ∀ x ∈ l, x < 256) : sb (str l) = l := by
  unfold sb str
  rw [List.map_map]
  have : ∀ x ∈ l, (UInt8.toNat ∘ UInt8.ofNat) x = id x := fun x hx => by
    have := h x hx
    simp [UInt8.toNat_ofNat_of_lt' this]
  rw [List.map_congr_left this, List.map_id]

theorem head_back {bs : List Nat} {k m : Nat} {r : List Nat} (hb : ∀ x ∈ bs, x < 256) (h : rdHead bs = .ok (k, m, r)) : k :: (num m ++ r) = bs := by
  match bs, h with
  | [], h => simp [rdHead] at h
  | q :: bs, h =>
    rw [rdHead] at h
    split at h
    · cases h
    · match hz : rdNum 0 0 bs with
      | .error e => rw [hz] at h; cases h
      | .ok (m', r2) =>
        rw [hz] at h
        simp only at h
        split at h
        · cases h
        · simp only [Except.ok.injEq, Prod.mk.injEq] at h
          obtain ⟨rfl, rfl, rfl⟩ := h
          rw [num_back (fun x hx => hb x (by simp [hx])) hz]

theorem unzig_ok {u : Nat} (h : u < 18446744073709551616) : -9223372036854775808 ≤ unzig u ∧ unzig u ≤ 9223372036854775807 := by
  unfold unzig
  split <;> omega

theorem mem_right {a b : List Nat} {P : Nat → Prop} (h : ∀ x ∈ a ++ b, P x) : ∀ x ∈ b, P x := fun x hx => h x (List.mem_append_right _ hx)

theorem rdI_back : ∀ (b d c : Nat) (bs : List Nat) (x : Item) (c' : Nat) (r : List Nat), d + b = 9 → (∀ x ∈ bs, x < 256) → bs.length ≤ 65536 → rdI b c bs = .ok (x, c', r) → x.bytes ++ r = bs ∧ chkI d c x = (c', 0) ∧ x.sized := by
  intro b
  induction b with
  | zero => intro d c bs x c' r _ _ _ h; simp [rdI] at h
  | succ b ih =>
    have hL : ∀ (n d c : Nat) (bs : List Nat) (acc l : List Item) (c' : Nat) (r : List Nat), d + b = 9 → (∀ x ∈ bs, x < 256) → bs.length ≤ 65536 → rdL (rdI b) n c bs acc = .ok (l, c', r) →
        ∃ l2, l = acc ++ l2 ∧ l2.length = n ∧ bytesL l2 ++ r = bs ∧ chkL d c l2 = (c', 0) ∧ sizedL l2 := by
      intro n
      induction n with
      | zero =>
        intro d c bs acc l c' r _ _ _ h
        simp only [rdL, Except.ok.injEq, Prod.mk.injEq] at h
        obtain ⟨rfl, rfl, rfl⟩ := h
        exact ⟨[], by simp, rfl, rfl, rfl, trivial⟩
      | succ n ihn =>
        intro d c bs acc l c' r hd hb hbl h
        rw [rdL] at h
        match hq : rdI b c bs with
        | .error e => rw [hq] at h; cases h
        | .ok (y, c2, r2) =>
          rw [hq] at h
          obtain ⟨h1, h2, h3⟩ := ih d c bs y c2 r2 hd hb hbl hq
          have hr2 : ∀ x ∈ r2, x < 256 := mem_right (a := y.bytes) (by rw [h1]; exact hb)
          have hrl : r2.length ≤ 65536 := by rw [← h1] at hbl; simp at hbl; omega
          obtain ⟨l2, e1, e2, e3, e4, e5⟩ := ihn d c2 r2 _ l c' r hd hr2 hrl h
          refine ⟨y :: l2, by rw [e1]; simp, by simp [e2], ?_, ?_, ?_⟩
          · rw [bytesL, List.append_assoc, e3, h1]
          · rw [chkL, h2]
            simpa using e4
          · rw [sizedL]; exact ⟨h3, e5⟩
    intro d c bs x c' r hd hb hbl h
    rw [rdI] at h
    split at h
    · cases h
    · rename_i hc
      match hh : rdHead bs with
      | .error e => rw [hh] at h; cases h
      | .ok (k, n, r1) =>
        have hhd := head_back hb hh
        have hr1 : ∀ x ∈ r1, x < 256 := mem_right (a := k :: num n) (by rw [List.cons_append, hhd]; exact hb)
        have hrl : r1.length ≤ 65536 := by rw [← hhd] at hbl; simp at hbl; omega
        obtain ⟨hk2, hm63, hm64, _⟩ := head_is hh
        rw [hh] at h
        simp only at h
        split at h
        · rename_i hk0
          subst hk0
          simp only [Except.ok.injEq, Prod.mk.injEq] at h
          obtain ⟨rfl, rfl, rfl⟩ := h
          have hno : Item.no (.mk 0 (unzig n) noT []) = zig (unzig n) := rfl
          refine ⟨?_, ?_, ?_⟩
          · rw [Item.bytes, hno, zig_unzig, ← hhd]
            simp [sb_noT, bytesL]
          · have hf : Item.form (.mk 0 (unzig n) noT []) = true := by simp [Item.form, Item.kind, Item.s, Item.kids, noT]; rfl
            rw [chkI, hf, if_neg (by decide), if_neg (by omega)]; rfl
          · rw [Item.sized]
            have := unzig_ok hm64
            exact ⟨by omega, by omega, this.1, this.2, by show (0 : Nat) ≤ _; omega, by simp, trivial⟩
        · rename_i hk0
          split at h
          · rename_i hk1
            subst hk1
            split at h
            · cases h
            · rename_i hlen
              simp only [Except.ok.injEq, Prod.mk.injEq] at h
              obtain ⟨rfl, rfl, rfl⟩ := h
              have htk : ∀ x ∈ r1.take n, x < 256 := fun x hx => hr1 x (List.mem_of_mem_take hx)
              have hsz : (str (r1.take n)).size = n := by
                rw [← sb_length, sb_str htk, List.length_take]; omega
              have hno : Item.no (.mk 1 0 (str (r1.take n)) []) = n := by
                show (if (1 : Int) = 1 then (str (r1.take n)).size else _) = n
                rw [if_pos rfl, hsz]
              refine ⟨?_, ?_, ?_⟩
              · rw [Item.bytes, hno, sb_str htk, ← hhd]
                simp [bytesL]
              · have hf : Item.form (.mk 1 0 (str (r1.take n)) []) = true := rfl
                rw [chkI, hf, if_neg (by decide), if_neg (by omega)]; rfl
              · rw [Item.sized]
                exact ⟨by omega, by omega, by omega, by omega, by rw [hsz]; omega, by simp, trivial⟩
          · rename_i hk1
            obtain rfl : k = 2 := by omega
            match hq : rdL (rdI b) n (c + 1) r1 [] with
            | .error e => rw [hq] at h; cases h
            | .ok (l, c2, r2) =>
              rw [hq] at h
              simp only [Except.ok.injEq, Prod.mk.injEq] at h
              obtain ⟨rfl, rfl, rfl⟩ := h
              obtain ⟨l2, e1, e2, e3, e4, e5⟩ := hL n (d + 1) (c + 1) r1 [] l c2 r2 (by omega) hr1 hrl hq
              obtain rfl : l = l2 := by simpa using e1
              have hno : Item.no (.mk 2 0 noT l) = l.length := rfl
              refine ⟨?_, ?_, ?_⟩
              · rw [Item.bytes, hno, e2, ← hhd, sb_noT]
                simp [e3]
              · have hf : Item.form (.mk 2 0 noT l) = true := rfl
                rw [chkI, hf, if_neg (by decide), if_neg (by omega)]; exact e4
              · rw [Item.sized]
                have := hm63 (by decide)
                exact ⟨by omega, by omega, by omega, by omega, by show (0 : Nat) ≤ _; omega, by omega, e5⟩

theorem rdTop_back : ∀ (f c : Nat) (bs : List Nat) (acc l : List Item), (∀ x ∈ bs, x < 256) → bs.length ≤ 65536 → rdTop f c bs acc = .ok l → ∃ l2, l = acc ++ l2 ∧ bytesL l2 = bs ∧ (chkL 1 c l2).2 = 0 ∧ sizedL l2 := by
  intro f
  induction f with
  | zero => intro c bs acc l _ _ h; simp [rdTop] at h
  | succ f ih =>
    intro c bs acc l hb hbl h
    rw [rdTop] at h
    split at h
    · rename_i h0
      subst h0
      simp only [Except.ok.injEq] at h
      subst h
      exact ⟨[], by simp, rfl, rfl, trivial⟩
    · match hq : rdI 8 c bs with
      | .error e => rw [hq] at h; cases h
      | .ok (y, c2, r2) =>
        rw [hq] at h
        obtain ⟨h1, h2, h3⟩ := rdI_back 8 1 c bs y c2 r2 rfl hb hbl hq
        have hr2 : ∀ x ∈ r2, x < 256 := mem_right (a := y.bytes) (by rw [h1]; exact hb)
        have hrl : r2.length ≤ 65536 := by rw [← h1] at hbl; simp at hbl; omega
        obtain ⟨l2, e1, e2, e3, e4⟩ := ih c2 r2 _ l hr2 hrl h
        refine ⟨y :: l2, by rw [e1]; simp, ?_, ?_, ?_⟩
        · rw [bytesL, e2, h1]
        · rw [chkL, h2]
          simpa using e3
        · rw [sizedL]; exact ⟨h3, e4⟩

mutual
theorem len_nodes : ∀ l : List Item, l.length ≤ nodesL l
  | [] => by simp
  | x :: r => by
    have := len_nodes r
    have := nodes_pos x
    rw [nodesL, List.length_cons]; omega
theorem nodes_pos : ∀ x : Item, 1 ≤ x.nodes
  | .mk k n s l => by rw [Item.nodes]; omega
end

/-- What is decoded is encoded to the same bytes. -/
theorem dec_back {bs : List Nat} {l : List Item} (hb : ∀ x ∈ bs, x < 256) (h : decN bs = .ok l) : encN l = (bs, 0) ∧ sizedL l ∧ nodesL l ≤ 4096 := by
  unfold decN at h
  split at h
  · cases h
  · rename_i hl
    obtain ⟨l2, e1, e2, e3, e4⟩ := rdTop_back 4097 0 bs [] l hb (by omega) h
    obtain rfl : l = l2 := by simpa using e1
    refine ⟨?_, e4, ?_⟩
    · unfold encN
      rw [if_neg (by simpa using e3), e2, if_neg hl]
    · have := (chkL_ok 1 0 l e3).2.2
      omega

theorem decR_fits {bs : List Nat} (hb : ∀ x ∈ bs, x < 256) : sizedL (decR bs).1 ∧ nodesL (decR bs).1 ≤ 4096 := by
  unfold decR
  match h : decN bs with
  | .error k => exact ⟨trivial, by simp [decOf, nodesL]⟩
  | .ok l => have := dec_back hb h; exact ⟨this.2.1, this.2.2⟩

end Go.Proofs.YtdikmlnpclklnaaGreatDoor.Wire
