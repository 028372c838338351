/-
  What millraceref01's Apart keeps between its rounds: slices of bytes that no two of share a block, each written over, then each grown by five bytes, in place or anew, and a row of the grown ones.
-/
import Derived.Test.YtlmohcmnoddncaaOwnRows
import Derived.Test.YtlmohcmnoddncaaByteRows
import Derived.Test.YtlmohcmnoddncaaTold
namespace Go.Proofs.Ytlmohcmnoddncaa.Law
open Go.RowKit

theorem OwnB.cells_ofA {W : World} {base g : Nat} {e e' : TypeId} {v : Value} {bs : List Nat} {cur : Array Value} {fz : Nat × Nat} (h : OwnB W base e v bs) (hg : W.heap[g]? = some (.cells cur e' fz)) (hne : e ≠ e') : v.ownBlock = none ∨ v.ownBlock ≠ some g :=
  h.other hg fun c f e'' => by
    injection e'' with _ h2 _
    exact hne h2.symm

/-- One byte behind bytes of the call's own: where the new slice lies, and that what lay at the front of the old block lies there yet. -/
theorem run_append_one {P : Program} (w : World) {t e : TypeId} (ty : TypeId) {i : TypeInfo} {z : Value} (ht : P.underlying t = some (.slice e)) (hi : P.info? e = some i) (hz : i.zero = some z)
    (hsize : i.size = 1) (hby : i.bytes = 1) (hzs : z.cells.size = 1) {base n₁ : Nat} {v : Value} {a : Addr} {c x : Nat} {xs : List Nat} (hown : OwnB w base e v xs) (hI : Bytes n₁ w (.slice (some a) 1 c) [x])
    (hroom : xs.length + 1 ≤ 140737488355328) (hbase : base ≤ w.heap.size) :
    ∃ v' w', (Builtin.append_ #[t, t] ty #[v, .slice (some a) 1 c]).run P w = .ok v' w' ∧ OwnB w' base e v' (xs ++ [x]) ∧ w.grownBy w' v.ownBlock ∧ (v'.ownBlock = v.ownBlock ∨ v'.ownBlock = some w.heap.size) ∧
      ∀ base' y ys, OwnB w base' e y ys → ys.length ≤ xs.length → y.ownBlock = v.ownBlock → OwnB w' base' e y ys := by
  obtain ⟨v', w', hrun, h1, h2, h3⟩ := run_append_bytes (P := P) w ty ht hi hz hsize hby hzs hown hI hroom hbase
  refine ⟨v', w', hrun, h1, h2, h3, fun base' y ys hy hle he => ?_⟩
  have hcell : ∀ j u, ([Value.int .u8 (x : Nat)] : List Value)[j]? = some u → w.cell? (a.add j) = some u := by
    obtain ⟨A, cap, e1, _, _, _, hc⟩ := hI
    obtain ⟨b, off, e2, _, h6⟩ := hc (by simp)
    injection e1 with e3 _ _
    rw [← e3] at e2
    obtain rfl : a = ⟨b, off, none⟩ := by simpa using e2
    intro j u hu
    cases j with
    | zero =>
      have h7 := h6 0 (by simp)
      rw [Addr.add_lit, h7, ← hu]; simp [List.getD]
    | succ j => simp at hu
  rcases hown.1.2 with ⟨rfl, h0⟩ | ⟨g, cap, cur, rfl, hb, hg, hn, hcm, hcs, htk⟩
  · rcases hy.1.2 with ⟨rfl, hy0⟩ | ⟨g', cap', cur', rfl, _⟩
    · exact ⟨⟨hy.1.1, .inl ⟨rfl, hy0⟩⟩, hy.2⟩
    · simp [Value.ownBlock] at he
  · rcases hy.1.2 with ⟨rfl, hy0⟩ | ⟨g', cap', cur', rfl, hb', hg', hn', hcm', hcs', htk'⟩
    · exact ⟨⟨hy.1.1, .inl ⟨rfl, hy0⟩⟩, hy.2⟩
    · obtain rfl : g' = g := by simpa [Value.ownBlock] using he
      rw [hg] at hg'
      injection hg' with hg'
      injection hg' with hcc _ _
      subst hcc
      by_cases hr : xs.length + 1 ≤ cap
      · have hrun2 := run_append_room (P := P) w t ty e i ht hi g' xs.length cap cur hg a 1 c [.int .u8 (x : Nat)] (by simp [hsize]) hcell (by simp [Value.oneCell']) hr (by rw [hsize, hcs]; simp; omega)
        rw [hrun] at hrun2
        injection hrun2 with _ hw
        subst hw
        have hlx : (xs.length * i.size) = xs.length := by rw [hsize, Nat.mul_one]
        refine ⟨⟨hy.1.1, .inr ⟨g', cap', _, rfl, hb', setRow_heap w g' cur _ e _ hg, hn', hcm', ?_, ?_⟩⟩, hy.2⟩
        · rw [hlx]
          simp only [List.size_toArray, List.length_append, List.length_take, List.length_drop, Array.length_toList, List.length_cons, List.length_nil]
          omega
        · have hcl : cur.toList.length = cap * 1 := by rw [Array.length_toList]; exact hcs
          rw [hlx, ← htk']
          simp only [List.append_assoc, Nat.mul_one]
          rw [List.take_append_of_le_length (by rw [List.length_take, hcl]; omega), List.take_take, Nat.min_eq_left hle]
      · have holds : ∀ j u, (vals xs)[j]? = some u → w.cell? ((⟨g', 0, none⟩ : Addr).add j) = some u := hown.1.cells (g := g') rfl
        have hrun2 := run_append_grow (P := P) w t ty e i z ht hi hz ⟨g', 0, none⟩ xs.length cap (vals xs) (by rw [vals_length, hsize, Nat.mul_one]) holds a 1 c [.int .u8 (x : Nat)] (by simp [hsize]) hcell (by omega) (by simp only [maxLen] at *; omega) (growslice_fits (by omega) (by rw [hby]; omega))
        rw [hrun] at hrun2
        injection hrun2 with _ hw
        subst hw
        exact hy.drew.alloc _

/-- .. as a step of the walk. -/
theorem wpList_append_one {P : Program} {ops : Array Oper} {rest : List Oper} {o : Oper} {a : Act} {w : World} {Q : Exit → Act → World → Prop} (hgd : Region.wanted o (yielded ops a.tmps) = true) (s x : Operand) (t : TypeId)
    (ho : o.op = .call { callee := .builtin .append, args := #[s, x], argTypes := #[t, t] }) {e : TypeId} {i : TypeInfo} {z : Value} (ht : P.underlying t = some (.slice e)) (hi : P.info? e = some i) (hz : i.zero = some z)
    (hsize : i.size = 1) (hby : i.bytes = 1) (hzs : z.cells.size = 1) {base n₁ : Nat} {v : Value} {A : Addr} {c y : Nat} {xs : List Nat} (hs : a.eval s = v) (hx : a.eval x = .slice (some A) 1 c) (hown : OwnB w base e v xs) (hI : Bytes n₁ w (.slice (some A) 1 c) [y])
    (hroom : xs.length + 1 ≤ 140737488355328) (hbase : base ≤ w.heap.size)
    (h : ∀ v' w', OwnB w' base e v' (xs ++ [y]) → w.grownBy w' v.ownBlock → (v'.ownBlock = v.ownBlock ∨ v'.ownBlock = some w.heap.size) → (∀ base' u us, OwnB w base' e u us → us.length ≤ xs.length → u.ownBlock = v.ownBlock → OwnB w' base' e u us) → wpList P ops Q rest (a.put o.dst v') w') :
    wpList P ops Q (o :: rest) a w := by
  obtain ⟨v', w', hrun, h2, h3, h4, h5⟩ := run_append_one (P := P) w o.type ht hi hz hsize hby hzs hown hI hroom hbase
  exact wpList_append_ran hgd s x t ho hs hx hrun (h v' w' h2 h3 h4 h5)

theorem grownBy_setAt (W : World) (b i : Nat) (v : Value) : W.grownBy (W.setCell ⟨b, i, none⟩ v) (some b) :=
  ⟨rfl, rfl, rfl, (KeepsWalks.setCell W _ v).size, fun k _ hk => Below.heap_setCell _ _ _ k (fun e => hk (by rw [e]))⟩

/-- No two of the slices share a block. -/
def Distinct (N : Nat) (v : Nat → Value) : Prop := ∀ i j, i < N → j < N → i ≠ j → ∀ b, (v i).ownBlock = some b → (v j).ownBlock ≠ some b

theorem Distinct.ne {N : Nat} {v : Nat → Value} (h : Distinct N v) {i j : Nat} (hi : i < N) (hj : j < N) (hne : i ≠ j) : (v i).ownBlock = none ∨ (v i).ownBlock ≠ (v j).ownBlock := by
  cases hb : (v i).ownBlock with
  | none => exact .inl rfl
  | some b => exact .inr fun e => h i j hi hj hne b hb e.symm

/-- The first k slices are written over with their numbers, of slice k the first i bytes. -/
def Written (e : TypeId) (N : Nat) (v : Nat → Value) (L : Nat → Nat) (base : Nat) (W : World) (k i : Nat) : Prop :=
  ∃ B : Nat → List Nat, ∀ j, j < N → (B j).length = L j ∧ OwnB W base e (v j) (B j) ∧ (j < k → B j = List.replicate (L j) j) ∧ (j = k → ∀ x, x < i → (B j).getD x 0 = k)

theorem Written.next {e : TypeId} {N : Nat} {v : Nat → Value} {L : Nat → Nat} {base : Nat} {W : World} {k : Nat} (h : Written e N v L base W k (L k)) : Written e N v L base W (k + 1) 0 := by
  obtain ⟨B, hB⟩ := h
  refine ⟨B, fun j hj => ?_⟩
  obtain ⟨h1, h2, h3, h4⟩ := hB j hj
  refine ⟨h1, h2, fun hjk => ?_, fun _ x hx => absurd hx (by omega)⟩
  by_cases hlt : j < k
  · exact h3 hlt
  · obtain rfl : j = k := by omega
    refine List.ext_getElem (by simp [h1]) fun x hx _ => ?_
    have := h4 rfl x (by omega)
    rw [List.getElem_replicate]
    simpa [List.getD, List.getElem?_eq_getElem hx] using this

theorem Written.store {e : TypeId} {N : Nat} {v : Nat → Value} {L : Nat → Nat} {base : Nat} {W : World} {k i g c : Nat} (h : Written e N v L base W k i) (hk : k < N) (hi : i < L k) (hD : Distinct N v) (h256 : k < 256)
    (hv : v k = .slice (some ⟨g, 0, none⟩) (L k) c) : Written e N v L base (W.setCell ⟨g, i, none⟩ (.int .u8 (k : Nat))) k (i + 1) := by
  obtain ⟨B, hB⟩ := h
  refine ⟨fun j => if j = k then (B k).set i k else B j, fun j hj => ?_⟩
  by_cases hjk : j = k
  · subst hjk
    obtain ⟨h1, h2, h3, h4⟩ := hB j hj
    simp only [if_true]
    refine ⟨by simp [h1], ?_, fun hlt => absurd hlt (by omega), fun _ x hx => ?_⟩
    · rw [hv] at h2 ⊢
      exact h2.store h1 i j h256
    · by_cases hxi : x = i
      · subst hxi
        simp [List.getD, h1, hi]
      · have := h4 rfl x (by omega)
        simpa [List.getD, List.getElem?_set, Ne.symm hxi] using this
  · obtain ⟨h1, h2, h3, h4⟩ := hB j hj
    simp only [hjk, if_false]
    refine ⟨h1, h2.kept (grownBy_setAt W g i _) ?_, h3, fun e => e.elim⟩
    have := hD.ne hj hk hjk
    rw [hv] at this
    exact this

theorem Written.all {e : TypeId} {N : Nat} {v : Nat → Value} {L : Nat → Nat} {base : Nat} {W : World} {i : Nat} (h : Written e N v L base W N i) : ∀ j, j < N → OwnB W base e (v j) (List.replicate (L j) j) := by
  obtain ⟨B, hB⟩ := h
  intro j hj
  obtain ⟨_, h2, h3, _⟩ := hB j hj
  rw [← h3 hj]; exact h2

/-- k of the slices are grown by five bytes each. -/
structure Grown (e r : TypeId) (N : Nat) (v : Nat → Value) (L : Nat → Nat) (base s bl : Nat) (O : Obj) (k : Nat) (gs : Nat → Value) (vg : Value) (W : World) : Prop where
  old : ∀ j, j < N → OwnB W base e (v j) (List.replicate (L j) j)
  new : ∀ j, j < k → OwnB W base e (gs j) (List.replicate (L j + 5) j)
  own : ∀ j, j < k → ∀ b, (gs j).ownBlock = some b → (v j).ownBlock = some b ∨ s ≤ b
  row : W.ownsRow s r 1 vg k ((List.range k).map gs)
  size : s ≤ W.heap.size
  head : W.heap[bl]? = some O

/-- .. and slice k by n bytes. -/
structure Chain (e r : TypeId) (N : Nat) (v : Nat → Value) (L : Nat → Nat) (base s bl : Nat) (O : Obj) (k : Nat) (gs : Nat → Value) (vg : Value) (sk n : Nat) (x : Value) (W : World) : Prop where
  grown : Grown e r N v L base s bl O k gs vg W
  bytes : OwnB W base e x (List.replicate (L k + n) k)
  place : ∀ b, x.ownBlock = some b → (v k).ownBlock = some b ∨ sk ≤ b
  low : ∀ j, j < k → ∀ b, (gs j).ownBlock = some b → b < sk
  rowlow : ∀ b, vg.ownBlock = some b → b < sk
  size : sk ≤ W.heap.size

theorem ne_of {a b : Option Nat} (h : ∀ k, a = some k → b ≠ some k) : a = none ∨ a ≠ b := by
  cases a with
  | none => exact .inl rfl
  | some k => exact .inr fun e => h k rfl e.symm

section
variable {e r : TypeId} {N : Nat} {v : Nat → Value} {L : Nat → Nat} {base s bl : Nat} {cur : Array Value} {fz : Nat × Nat} {k : Nat} {gs : Nat → Value} {vg : Value}

theorem Chain.start {W : World} (h : Grown e r N v L base s bl (.cells cur r fz) k gs vg W) (hk : k < N) : Chain e r N v L base s bl (.cells cur r fz) k gs vg W.heap.size 0 (v k) W :=
  ⟨h, by simpa using h.old k hk, fun b hb => .inl hb, fun j hj b hb => ((h.new j hj).1.lt b hb).2, fun b hb => (h.row.lt b hb).2, Nat.le_refl _⟩

theorem Chain.step {W w' : World} {sk n : Nat} {x x' : Value} {tmp : Obj} (h : Chain e r N v L base s bl (.cells cur r fz) k gs vg sk n x W) (hk : k < N) (hD : Distinct N v) (hlow : ∀ j, j < N → ∀ b, (v j).ownBlock = some b → b < s) (hss : s ≤ sk) (her : e ≠ r)
    (hO : OwnB w' base e x' (List.replicate (L k + n) k ++ [k])) (hg : (W.alloc tmp).grownBy w' x.ownBlock) (hat : x'.ownBlock = x.ownBlock ∨ x'.ownBlock = some (W.alloc tmp).heap.size)
    (hst : ∀ base' y ys, OwnB (W.alloc tmp) base' e y ys → ys.length ≤ (List.replicate (L k + n) k).length → y.ownBlock = x.ownBlock → OwnB w' base' e y ys) :
    Chain e r N v L base s bl (.cells cur r fz) k gs vg sk (n + 1) x' w' := by
  have hG := h.grown
  have hbl : bl < W.heap.size := by
    rcases Nat.lt_or_ge bl W.heap.size with hlt | hge
    · exact hlt
    · have := hG.head; rw [Array.getElem?_eq_none hge] at this; cases this
  have hx := h.bytes.alloc tmp
  have hsz := hg.size
  simp only [World.size_alloc] at hsz
  have hhead : (W.alloc tmp).heap[bl]? = some (.cells cur r fz) := (Below.heap_alloc W tmp bl hbl).trans hG.head
  refine ⟨⟨fun j hj => ?_, fun j hj => ?_, hG.own, ?_, by have := hG.size; omega, ?_⟩, ?_, fun b hb => ?_, h.low, h.rowlow, by have := h.size; omega⟩
  · have hv := (hG.old j hj).alloc tmp
    by_cases hjk : j = k
    · subst hjk
      by_cases heq : (v j).ownBlock = x.ownBlock
      · exact hst _ _ _ hv (by simp) heq
      · exact hv.kept hg (.inr heq)
    · refine hv.kept hg (ne_of fun b hb e' => ?_)
      rcases h.place b e' with h1 | h1
      · exact hD j k hj hk hjk b hb h1
      · have := hlow j hj b hb; omega
  · refine ((hG.new j hj).alloc tmp).kept hg (ne_of fun b hb e' => ?_)
    rcases h.place b e' with h1 | h1
    · rcases hG.own j hj b hb with h2 | h2
      · exact hD j k (by omega) hk (by omega) b h2 h1
      · have := hlow k hk b h1; omega
    · have := h.low j hj b hb; omega
  · refine (hG.row.alloc tmp).kept hg (ne_of fun b hb e' => ?_)
    rcases h.place b e' with h1 | h1
    · have := hlow k hk b h1; have := (hG.row.lt b hb).1; omega
    · have := h.rowlow b hb; omega
  · rw [hg.block bl (by simp; omega) (fun e' => ?_)]
    · exact hhead
    · rcases hx.1.2 with ⟨rfl, _⟩ | ⟨g, cap, cur', rfl, _, hgb, _⟩
      · simp [Value.ownBlock] at e'
      · obtain rfl : bl = g := by simpa [Value.ownBlock] using e'
        rw [hhead] at hgb
        injection hgb with hgb
        injection hgb with _ h2 _
        exact her h2.symm
  · rw [show L k + (n + 1) = (L k + n) + 1 by omega, List.replicate_succ']; exact hO
  · rcases hat with h1 | h1
    · exact h.place b (h1 ▸ hb)
    · right
      rw [h1] at hb
      have : (W.alloc tmp).heap.size = b := by simpa using hb
      simp at this
      have := h.size
      omega

theorem Chain.collect {W w' : World} {sk : Nat} {x vg' : Value} {tmp : Obj} (h : Chain e r N v L base s bl (.cells cur r fz) k gs vg sk 5 x W) (hbl : bl < s) (hss : s ≤ sk) (her : e ≠ r)
    (hO : w'.ownsRow s r 1 vg' (k + 1) ((List.range k).map gs ++ [x])) (hg : (W.alloc tmp).grownBy w' vg.ownBlock) :
    Grown e r N v L base s bl (.cells cur r fz) (k + 1) (fun j => if j = k then x else gs j) vg' w' := by
  have hG := h.grown
  have hsz := hg.size
  simp only [World.size_alloc] at hsz
  have hrow := hG.row.alloc tmp
  have other : ∀ {bs : List Nat} {y : Value}, OwnB W base e y bs → OwnB w' base e y bs := fun hy => by
    refine (hy.alloc tmp).kept hg ?_
    rcases hrow.2 with ⟨rfl, _⟩ | ⟨g, cap, cur', rfl, _, hgb, _⟩
    · exact ne_of fun b _ e' => by simp [Value.ownBlock] at e'
    · refine (hy.alloc tmp).other hgb fun c f e'' => ?_
      injection e'' with _ h2 _
      exact her h2.symm
  refine ⟨fun j hj => other (hG.old j hj), fun j hj => ?_, fun j hj b hb => ?_, ?_, by have := hG.size; omega, ?_⟩
  · by_cases hjk : j = k
    · subst hjk; simp only [if_true]; exact other h.bytes
    · simp only [hjk, if_false]; exact other (hG.new j (by omega))
  · by_cases hjk : j = k
    · subst hjk
      simp only [if_true] at hb
      rcases h.place b hb with h1 | h1
      · exact .inl h1
      · exact .inr (by omega)
    · simp only [hjk, if_false] at hb; exact hG.own j (by omega) b hb
  · have he : (List.range (k + 1)).map (fun j => if j = k then x else gs j) = (List.range k).map gs ++ [x] := by
      rw [List.range_succ, List.map_append]
      congr 1
      · refine List.map_congr_left fun j hj => ?_
        have := List.mem_range.1 hj
        rw [if_neg (by omega)]
      · simp
    rw [he]; exact hO
  · rw [hg.block bl (by simp; have := hG.size; omega) (fun e' => by have := (hG.row.lt bl e'.symm).1; omega)]
    exact (Below.heap_alloc W tmp bl (by have := hG.size; omega)).trans hG.head

end

end Go.Proofs.Ytlmohcmnoddncaa.Law
