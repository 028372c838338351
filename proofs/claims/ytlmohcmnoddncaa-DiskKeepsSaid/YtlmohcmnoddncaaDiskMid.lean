/-
  A disk in the middle of a crash: what is said of its files while the changes come upon them, and while they are settled one by one.
-/
import Derived.Test.YtlmohcmnoddncaaDiskIter
namespace Go.Proofs.Ytlmohcmnoddncaa.Disk
open Go Go.RowKit Go.Lib Go.Proofs.Ytlmohcmnoddncaa.Law

/-- The durable files behind a crash's first k changes. -/
def crashTo (picks : List Int) (l : List (ByteArray × Chg)) (f : ByteArray → Option (List Nat)) : Nat → ByteArray → Option (List Nat)
  | 0 => f
  | k + 1 => match l[k]? with
    | some x => upd (crashTo picks l f k) x.1 (behindD x.2 (picks.getD k 0) (crashTo picks l f k x.1))
    | none => crashTo picks l f k
def DS.crashSafe (D : DS) (picks : List Int) : ByteArray → Option (List Nat) := crashTo picks D.chs D.safe D.chs.length
/-- The disk behind a crash. -/
def DS.crash (D : DS) (picks : List Int) : DS :=
  { D with used := total D.names (D.crashSafe picks), fails := false, names := D.names.filter fun s => (D.crashSafe picks s).isSome, now := D.crashSafe picks, safe := D.crashSafe picks, chs := [] }

theorem behindD_size {c : Chg} (hc : c.pos + c.s.size ≤ 1073741824) (p : Int) {o : Option (List Nat)} (ho : szO o ≤ 1073741824) : szO (behindD c p o) ≤ 1073741824 := by
  unfold behindD
  by_cases h0 : c.kind = 0
  · rw [if_pos h0]
    by_cases h1 : 0 < min p (c.s.size : Int) ∧ c.pos ≤ szO o
    · rw [if_pos h1]
      show (overL _ _ _).length ≤ _
      rw [overL_length _ _ (by rw [szO_getD]; exact h1.2), szO_getD, List.length_take, bytesS_length]
      omega
    · rw [if_neg h1]; exact ho
  · rw [if_neg h0]
    by_cases h1 : c.kind = 1
    · rw [if_pos h1]
      by_cases h2 : 0 < p ∧ c.pos < szO o
      · rw [if_pos h2]
        show (List.take _ _).length ≤ _
        rw [List.length_take, szO_getD]; omega
      · rw [if_neg h2]; exact ho
    · rw [if_neg h1]
      by_cases h2 : 0 < p
      · rw [if_pos h2]; exact Nat.zero_le _
      · rw [if_neg h2]; exact ho
theorem crashTo_size {picks : List Int} {l : List (ByteArray × Chg)} {f : ByteArray → Option (List Nat)} (hl : ∀ x ∈ l, x.2.pos + x.2.s.size ≤ 1073741824) (hf : ∀ s, szO (f s) ≤ 1073741824) : ∀ k s, szO (crashTo picks l f k s) ≤ 1073741824
  | 0, s => hf s
  | k + 1, s => by
    unfold crashTo
    cases hx : l[k]? with
    | none => exact crashTo_size hl hf k s
    | some x =>
      dsimp only
      by_cases hs : s = x.1
      · subst hs
        rw [upd_same]
        exact behindD_size (hl x (List.mem_of_getElem? hx)) _ (crashTo_size hl hf k x.1)
      · rw [upd_other _ _ hs]; exact crashTo_size hl hf k s
theorem crashTo_out {picks : List Int} {l : List (ByteArray × Chg)} {f : ByteArray → Option (List Nat)} {s : ByteArray} (hl : ∀ x ∈ l, x.1 ≠ s) : ∀ k, crashTo picks l f k s = f s
  | 0 => rfl
  | k + 1 => by
    unfold crashTo
    cases hx : l[k]? with
    | none => exact crashTo_out hl k
    | some x =>
      dsimp only
      rw [upd_other _ _ (fun e => hl x (List.mem_of_getElem? hx) e.symm)]
      exact crashTo_out hl k
theorem crashTo_succ {picks : List Int} {l : List (ByteArray × Chg)} {f : ByteArray → Option (List Nat)} {k : Nat} {x : ByteArray × Chg} (hx : l[k]? = some x) :
    crashTo picks l f (k + 1) = upd (crashTo picks l f k) x.1 (behindD x.2 (picks.getD k 0) (crashTo picks l f k x.1)) := by
  conv => lhs; unfold crashTo
  rw [hx]

theorem WF.crashSz {D : DS} (h : WF D) (picks : List Int) (k : Nat) (s : ByteArray) : szO (crashTo picks D.chs D.safe k s) ≤ 1073741824 := crashTo_size h.chSz h.safeLe k s
theorem WF.crashOut {D : DS} (h : WF D) (picks : List Int) (k : Nat) {s : ByteArray} (hs : s ∉ D.names) : crashTo picks D.chs D.safe k s = none := by
  rw [crashTo_out (s := s) (fun x hx e => hs (by rw [← e]; exact (h.names x.1).2 (.inr (.inr ⟨x.2, hx⟩)))) k]
  exact (h.gone hs).2.1

theorem total_filter (f : ByteArray → Option (List Nat)) : ∀ names : List ByteArray, total (names.filter fun s => (f s).isSome) f = total names f
  | [] => rfl
  | a :: l => by
    have ih := total_filter f l
    unfold total at ih ⊢
    by_cases ha : (f a).isSome = true
    · rw [List.filter_cons_of_pos (by simpa using ha), List.map_cons, List.map_cons, List.sum_cons, List.sum_cons, ih]
    · rw [List.filter_cons_of_neg (by simpa using ha), List.map_cons, List.sum_cons, ih]
      have : f a = none := by simpa using ha
      rw [this]; simp [szO]

theorem WF.crash {D : DS} (h : WF D) (picks : List Int) : WF (D.crash picks) := by
  have hsz : ∀ s b, D.crashSafe picks s = some b → b.length ≤ 1073741824 := fun s b hb => by
    have := h.crashSz picks D.chs.length s
    unfold DS.crashSafe at hb
    rw [hb] at this; exact this
  constructor
  · exact h.nodup.filter _
  · intro s
    show s ∈ D.names.filter _ ↔ D.crashSafe picks s ≠ none ∨ D.crashSafe picks s ≠ none ∨ ∃ c, (s, c) ∈ []
    rw [List.mem_filter]
    constructor
    · rintro ⟨_, h2⟩
      exact .inl (by intro e; rw [e] at h2; cases h2)
    · rintro (h2 | h2 | ⟨c, hc⟩)
      · exact ⟨Classical.byContradiction fun hs => h2 (h.crashOut picks _ hs), by cases hq : D.crashSafe picks s with
          | none => exact absurd hq h2
          | some b => rfl⟩
      · exact ⟨Classical.byContradiction fun hs => h2 (h.crashOut picks _ hs), by cases hq : D.crashSafe picks s with
          | none => exact absurd hq h2
          | some b => rfl⟩
      · cases hc
  · exact fun s hs => h.right s (List.mem_filter.1 hs).1
  · exact Nat.le_trans (List.length_filter_le _ _) h.count
  · exact hsz
  · exact hsz
  · exact fun x hx => by cases hx
  · exact List.Pairwise.nil
  · exact fun x hx => by cases hx
  · exact fun x hx => by cases hx
  · exact Nat.zero_le _
  · exact h.room
  · exact (total_filter _ _).symm

/-- A file in the middle: what is durable of it; behind d as it is settled. -/
def FileMid (W : World) (O' : Owner) (base : Nat) (s : ByteArray) (fb : Nat) (o : Option (List Nat)) (d : Prop) : Prop :=
  ∃ nt nv sh cv A c, FB W fb nt nv o.isSome (.slice A (szO o) c) sh cv ∧ Buf W base 5 (.slice A (szO o) c) (o.getD []) ∧ O' fb = some (some s) ∧ (∀ g, (Value.slice A (szO o) c).ownBlock = some g → O' g = some (some s)) ∧
    (d → nt = o.isSome ∧ nv = .slice A (szO o) c ∧ sh = true ∧ cv = .slice none 0 0)

/-- The disk's files in the middle. -/
structure Mid (w : World) (O : Owner) (base n1 : Nat) (names : List ByteArray) (F : ByteArray → Option Nat) (st : ByteArray → Option (List Nat)) (rest : List ByteArray) (O' : Owner) (W : World) : Prop where
  old : ∀ k, k < w.heap.size → O' k = O k
  new : ∀ k, O' k ≠ none → k < w.heap.size ∨ n1 ≤ k
  lt : ∀ k, O' k ≠ none → k < W.heap.size
  files : ∀ s ∈ names, (s ∈ rest ∨ st s ≠ none) → ∃ fb, F s = some fb ∧ fb < w.heap.size ∧ FileMid W O' base s fb (st s) (s ∉ rest)
  same : ∀ k, k < w.heap.size → O k = none → W.heap[k]? = w.heap[k]?
  os : W.os = w.os
  tape : W.tape = w.tape
  output : W.output = w.output
  size : w.heap.size ≤ W.heap.size
  n1 : n1 ≤ W.heap.size

section
variable {w W W' : World} {O O' : Owner} {base n1 : Nat} {names : List ByteArray} {F : ByteArray → Option Nat} {st : ByteArray → Option (List Nat)} {rest : List ByteArray}

theorem FileMid.keep {s : ByteArray} {fb : Nat} {o : Option (List Nat)} {d : Prop} (h : FileMid W O' base s fb o d) (hk : ∀ k cur t z, W.heap[k]? = some (.cells cur t z) → O' k = some (some s) → W'.heap[k]? = W.heap[k]?) : FileMid W' O' base s fb o d := by
  obtain ⟨nt, nv, sh, cv, A, c, h1, h2, h3, h4, h5⟩ := h
  refine ⟨nt, nv, sh, cv, A, c, (hk fb _ _ _ h1 h3).trans h1, ?_, h3, h4, h5⟩
  refine h2.keep fun g hg => ?_
  rcases h2.2 with ⟨h6, _⟩ | ⟨g', cap, cur, h6, _, h7, _⟩
  · rw [h6] at hg; cases hg
  · have : g' = g := by rw [h6] at hg; simpa [Value.ownBlock] using hg
    subst this
    exact hk _ _ _ _ h7 (h4 _ hg)

/-- A turn that leaves the files' cells. -/
theorem Mid.keep (h : Mid w O base n1 names F st rest O' W) (hs : W.heap.size ≤ W'.heap.size) (hk : ∀ k cur t z s, W.heap[k]? = some (.cells cur t z) → O' k = some (some s) → W'.heap[k]? = W.heap[k]?)
    (hb : ∀ k, k < w.heap.size → O k = none → W'.heap[k]? = W.heap[k]?) (hos : W'.os = W.os) (htp : W'.tape = W.tape) (hout : W'.output = W.output) : Mid w O base n1 names F st rest O' W' :=
  ⟨h.old, h.new, fun k hk => Nat.lt_of_lt_of_le (h.lt k hk) hs, fun s hsn hr => by
    obtain ⟨fb, h1, h2, h3⟩ := h.files s hsn hr
    exact ⟨fb, h1, h2, h3.keep fun k cur t z hc ho => hk k cur t z s hc ho⟩, fun k hk ho => (hb k hk ho).trans (h.same k hk ho), hos.trans h.os, htp.trans h.tape, hout.trans h.output, Nat.le_trans h.size hs, Nat.le_trans h.n1 hs⟩
theorem Mid.grown {row : Option Nat} (h : Mid w O base n1 names F st rest O' W) (hg : W.grownBy W' row) (hr : ∀ r, row = some r → w.heap.size ≤ r ∧ ∃ o : Obj, W.heap[r]? = some o ∧ o.isCells = false) : Mid w O base n1 names F st rest O' W' := by
  refine h.keep hg.size (fun k cur t z s hc _ => hg.block k (Array.getElem?_eq_some_iff.1 hc).1 fun e => ?_) (fun k hk _ => hg.block k (Nat.lt_of_lt_of_le hk h.size) fun e => ?_) hg.os hg.tape hg.output
  · obtain ⟨_, o, ho, hc2⟩ := hr k e.symm
    rw [hc] at ho
    obtain rfl := (Option.some.inj ho).symm
    cases hc2
  · have := (hr k e.symm).1; omega
theorem Mid.below (h : Mid w O base n1 names F st rest O' W) (hB : Below W.heap.size W W') : Mid w O base n1 names F st rest O' W' := h.grown (grown_of_below hB) (fun r e => by cases e)

/-- One file turned: its durable bytes. -/
theorem Mid.turn (h : Mid w O base n1 names F st names O' W) {s : ByteArray} {fb : Nat} (hF : F s = some fb) {nt : Bool} {nv : Value} {sh : Bool} {cv sv : Value} {o' : Option (List Nat)} {A : Option Addr} {c : Nat} (hO : O' fb = some (some s))
    (hfile : FB W' fb nt nv o'.isSome (.slice A (szO o') c) sh cv) (hbuf : Buf W' base 5 (.slice A (szO o') c) (o'.getD [])) (hsv : ∀ g, sv.ownBlock = some g → O' g = some (some s))
    (hown : ∀ g, (Value.slice A (szO o') c).ownBlock = some g → sv.ownBlock = some g ∨ W.heap.size ≤ g) (hold : ∀ k, k < W.heap.size → k ≠ fb → sv.ownBlock ≠ some k → W'.heap[k]? = W.heap[k]?) (hs : W.heap.size ≤ W'.heap.size) (hos : W'.os = W.os) (htp : W'.tape = W.tape) (hout : W'.output = W.output) :
    Mid w O base n1 names F (upd st s o') names (own O' W.heap.size W'.heap.size s) W' := by
  have hfo : ∀ k, O' k ≠ some (some s) → k < W.heap.size → W'.heap[k]? = W.heap[k]? := fun k hk hl => hold k hl (fun e => hk (by rw [e]; exact hO)) (fun e => hk (hsv k e))
  refine ⟨fun k hk => (own_old (Nat.lt_of_lt_of_le hk h.size)).trans (h.old k hk), fun k hk => ?_, fun k hk => ?_, fun x hx _ => ?_, fun k hk ho => ?_, hos.trans h.os, htp.trans h.tape, hout.trans h.output, Nat.le_trans h.size hs, Nat.le_trans h.n1 hs⟩
  · by_cases hn : W.heap.size ≤ k ∧ k < W'.heap.size
    · exact .inr (Nat.le_trans h.n1 hn.1)
    · have e : own O' W.heap.size W'.heap.size s k = O' k := if_neg hn
      rw [e] at hk
      exact h.new k hk
  · by_cases hn : W.heap.size ≤ k ∧ k < W'.heap.size
    · exact hn.2
    · have e : own O' W.heap.size W'.heap.size s k = O' k := if_neg hn
      rw [e] at hk
      exact Nat.lt_of_lt_of_le (h.lt k hk) hs
  · by_cases hxs : x = s
    · subst hxs
      obtain ⟨fx, h1, h2, _⟩ := h.files x hx (.inl hx)
      rw [hF] at h1
      obtain rfl := Option.some.inj h1
      refine ⟨fb, hF, h2, ?_⟩
      rw [upd_same]
      refine ⟨nt, nv, sh, cv, A, c, hfile, hbuf, (own_old (Nat.lt_of_lt_of_le h2 h.size)).trans hO, fun g hg => ?_, fun hd => absurd hx hd⟩
      rcases hown g hg with h3 | h3
      · have h4 := hsv g h3
        rw [own_old (h.lt g (by rw [h4]; simp))]; exact h4
      · have := (hbuf.own g hg).2
        exact own_new h3 this
    · obtain ⟨fx, h1, h2, h3⟩ := h.files x hx (.inl hx)
      refine ⟨fx, h1, h2, ?_⟩
      rw [upd_other _ _ hxs]
      obtain ⟨nt, nv, sh, cv, A, c, h4, h5, h6, h7, h8⟩ := h3.keep (W' := W') fun k cur t z hc ho => hfo k (by rw [ho]; simpa using hxs) (Array.getElem?_eq_some_iff.1 hc).1
      refine ⟨nt, nv, sh, cv, A, c, h4, h5, (own_old (Nat.lt_of_lt_of_le h2 h.size)).trans h6, fun g hg => ?_, h8⟩
      have h9 := h7 g hg
      rw [own_old (h.lt g (by rw [h9]; simp))]; exact h9
  · have : O' k ≠ some (some s) := by rw [h.old k hk, ho]; simp
    rw [hfo k this (Nat.lt_of_lt_of_le hk h.size)]
    exact h.same k hk ho
end

/-- The start. -/
theorem Mid.start {w W : World} {O : Owner} {db mb : Nat} {D : DS} {F : ByteArray → Option Nat} (hc : Core w O db mb D F) (hf : ∀ s ∈ D.names, ∃ fb, F s = some fb ∧ FileAt w O (db + 1) s fb (D.now s) (D.safe s) (mine s D.chs)) (hB : Below w.heap.size w W) :
    Mid w O (db + 1) W.heap.size D.names F D.safe D.names O W := by
  refine ⟨fun _ _ => rfl, fun k hk => .inl (hc.lt k hk), fun k hk => Nat.lt_of_lt_of_le (hc.lt k hk) hB.size, fun s hs _ => ?_, fun k hk _ => hB.block k hk, hB.os, hB.tape, hB.output, hB.size, Nat.le_refl _⟩
  obtain ⟨fb, h1, h2⟩ := hf s hs
  obtain ⟨v, v1, v2, v3, v4, v5, v6, v7⟩ := h2.vals
  exact ⟨fb, h1, v1.lt, _, _, _, _, _, _, v1.below hB, v3.below hB, v6, fun g hg => v7 g (.inr (.inl hg)), fun hd => absurd hs hd⟩

end Go.Proofs.Ytlmohcmnoddncaa.Disk
