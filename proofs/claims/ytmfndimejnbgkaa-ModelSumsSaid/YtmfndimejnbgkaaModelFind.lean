/-
  Contracts of the model's finder and of what it answers: what an operator's pairs are, found once.
-/
import Derived.Test.YtmfndimejnbgkaaModelConcat
import Derived.Test.YtmfndimejnbgkaaModelTake
import Derived.Laws.EntriesVeiled
namespace Go.Proofs.Ytmfndimejnbgkaa.Model
open Go Go.RowKit Go.Lib Go.Sort Go.Shelf Go.Maps Go.Proofs.Ytmfndimejnbgkaa.Law Go.Proofs.Ytmfndimejnbgkaa.Graph Go.Proofs.Ytmfndimejnbgkaa.Fold

theorem tabL_wf {ks : List ByteArray} {F : ByteArray → Option Nat} (hs : ∀ s ∈ ks, Short s) (hF : ∀ s v, F s = some v → v < 4294967296) : wfP (tabL ks F) := fun p hp => by
  obtain ⟨h1, h2⟩ := mem_tabL.1 hp
  refine ⟨hs _ h1, ?_⟩
  rw [h2]
  cases hk : F p.key with
  | none => show 0 < 4294967296; decide
  | some v => exact hF _ _ hk
theorem keysL_short {l : List Pr} (h : wfP l) : ∀ s ∈ keysL l, Short s := fun s hs => by
  obtain ⟨p, hp, rfl⟩ := mem_keysL.1 hs
  exact (h p hp).1
theorem bothF_lt {x : Int} {a b : List Pr} (ha : wfP a) (hb : wfP b) {k : ByteArray} {v : Nat} (h : bothF x a b k = some v) : v < 4294967296 := by
  unfold bothF at h
  cases h1 : grpF x a k with
  | none => rw [h1] at h; cases h
  | some y =>
    cases h2 : grpF x b k with
    | none => rw [h1, h2] at h; cases h
    | some z =>
      rw [h1, h2] at h
      obtain rfl : jnN x y z = v := by simpa using h
      exact jnN_lt x y z (grpF_lt ha h1) (grpF_lt hb h2)
theorem takenN_wf {a : Int} {l : List Rc} (h : wfR l) : wfP (takenN a l) := fun p hp => by
  unfold takenN at hp
  obtain ⟨r, hr, rfl⟩ := List.mem_map.1 hp
  have := h r (List.mem_filter.1 hr).1
  exact ⟨this.1, this.2.1⟩
theorem passedN_wf {o : Opr} (ho : o.num < 4294967296) {l : List Pr} (h : wfP l) : wfP (passedN o l) := fun p hp => by
  unfold passedN at hp
  obtain ⟨q, hq, hqp⟩ := List.mem_filterMap.1 hp
  unfold passOne at hqp
  split at hqp
  · cases hqp
  · obtain rfl := Option.some.inj hqp
    exact ⟨(h q hq).1, turnN_lt o ho _ (h q hq).2⟩
theorem opN_wf {o : Opr} (ho : o.num < 4294967296) {ps : List (List Pr)} {kept : List Pr} {recs : List Rc} (hr : wfR recs) (hk : wfP kept) (hp : ∀ i, wfP (ps.getD i [])) : wfP (opN o ps kept recs) := by
  unfold opN
  split
  · exact takenN_wf hr
  · split
    · exact (hp _).append (hp _)
    · split
      · exact tabL_wf (fun s hs => keysL_short (hp _) s (List.mem_filter.1 hs).1) (fun s v h => bothF_lt (hp _) (hp _) h)
      · split
        · exact tabL_wf (keysL_short (hp _)) (fun s v h => foldJ_lt _ kept _ hk (fun k v h => grpF_lt (hp _) h) _ _ h)
        · exact passedN_wf ho (hp _)
theorem pairsL_wf {g : List Opr} {st : List (List Pr)} {recs : List Rc} (hg : ∀ x ∈ g, x.num < 4294967296) (hr : wfR recs) (hs : ∀ l ∈ st, wfP l) : ∀ n i, wfP ((pairsL g st recs n).getD i [])
  | 0, i => by simp [pairsL]; exact wfP.nil
  | n + 1, i => by
    have ih := pairsL_wf hg hr hs n
    by_cases hi : i < n
    · rw [pairsL_get g st recs (by omega), ← pairsL_get g st recs hi]
      exact ih i
    · by_cases he : i = n
      · subst he
        rw [pairsL_get g st recs (Nat.lt_succ_self _), pairsAt_eq]
        refine opN_wf ?_ hr ?_ ih
        · rw [List.getD_eq_getElem?_getD]
          cases h : g[i]? with
          | none => show 0 < 4294967296; decide
          | some x => exact hg x (List.mem_of_getElem? h)
        · rw [List.getD_eq_getElem?_getD]
          cases h : st[i]? with
          | none => exact wfP.nil
          | some l => exact hs l (List.mem_of_getElem? h)
      · rw [List.getD_eq_getElem?_getD, List.getElem?_eq_none (by rw [pairsL_length]; omega)]
        exact wfP.nil
theorem pairsAt_wf {g : List Opr} {st : List (List Pr)} {recs : List Rc} (hg : ∀ x ∈ g, x.num < 4294967296) (hr : wfR recs) (hs : ∀ l ∈ st, wfP l) (i : Nat) : wfP (pairsAt g st recs i) := pairsL_wf hg hr hs (i + 1) i

noncomputable abbrev iK : KeyK Try.prog 3 Int := intK Try.underlying3
/-- The function that finder answers, by its first box. -/
abbrev fnV (q : Nat) : Value := .func (.func 62) #[] #[.pointer (some ⟨q + 4, 0, none⟩), .pointer (some ⟨q, 0, none⟩), .pointer (some ⟨q + 2, 0, none⟩), .pointer (some ⟨q + 5, 0, none⟩), .pointer (some ⟨q + 1, 0, none⟩)]
abbrev fnArgs (q : Nat) (i : Nat) : Array Value := #[.int .i64 (i : Nat), .pointer (some ⟨q + 4, 0, none⟩), .pointer (some ⟨q, 0, none⟩), .pointer (some ⟨q + 2, 0, none⟩), .pointer (some ⟨q + 5, 0, none⟩), .pointer (some ⟨q + 1, 0, none⟩)]
/-- The finder's boxes. -/
structure Boxes (W : World) (q : Nat) (gv sv rv : Value) : Prop where
  g : W.heap[q]? = some (gObj gv)
  s : W.heap[q + 1]? = some (sObj sv)
  r : W.heap[q + 2]? = some (.cells #[rv] 37)
  m : W.heap[q + 4]? = some (.cells #[.map (some (q + 3))] 116)
  f : W.heap[q + 5]? = some (.cells #[fnV q] 89)
theorem Boxes.keep {W W' : World} {q : Nat} {gv sv rv : Value} (h : Boxes W q gv sv rv) (hb : ∀ k, k < q + 6 → k ≠ q + 3 → W'.heap[k]? = W.heap[k]?) : Boxes W' q gv sv rv :=
  ⟨(hb q (by omega) (by omega)).trans h.g, (hb _ (by omega) (by omega)).trans h.s, (hb _ (by omega) (by omega)).trans h.r, (hb _ (by omega) (by omega)).trans h.m, (hb _ (by omega) (by omega)).trans h.f⟩
/-- n operators' pairs have been found. -/
structure Fnd (W : World) (q : Nat) (gv sv rv : Value) (n : Nat) (F : Int → Option Value) (L : Nat → List Pr) : Prop where
  box : Boxes W q gv sv rv
  map : MapV iK W (q + 3) n F
  hit : ∀ i : Nat, i < n → ∃ v, F (i : Int) = some v ∧ OwnP W (q + 6) v (L i)
  no : F (n : Int) = none
  fresh : ∀ i : Nat, n ≤ i → F (i : Int) = none
  size : q + 6 ≤ W.heap.size
theorem Fnd.below {W W' : World} {q : Nat} {gv sv rv : Value} {n : Nat} {F : Int → Option Value} {L : Nat → List Pr} (h : Fnd W q gv sv rv n F L) (hB : Below W.heap.size W W') : Fnd W' q gv sv rv n F L :=
  ⟨h.box.keep fun k hk _ => hB.block k (by have := h.size; omega), MapV.below h.map hB, fun i hi => by obtain ⟨v, h1, h2⟩ := h.hit i hi; exact ⟨v, h1, h2.below hB⟩, h.no, h.fresh, Nat.le_trans h.size hB.size⟩
theorem zero_pairs (W : World) : (zeroValue 41).run Try.prog W = .ok (.slice none 0 0) W := by kernel_rfl
theorem int_ok {i : Nat} (h : i ≤ 4294967296) : (Lit.int .i64 (i : Int)).wf = true := by
  simp only [Lit.wf, Bool.and_eq_true, decide_eq_true_eq]
  have h1 : IntKind.i64.min = -9223372036854775808 := rfl
  have h2 : IntKind.i64.max = 9223372036854775807 := rfl
  omega

set_option maxRecDepth 100000 in
set_option maxHeartbeats 1000000 in
theorem hit_calls {q : Nat} {gv sv rv : Value} {n : Nat} {F : Int → Option Value} {L : Nat → List Pr} (W : World) (h : Fnd W q gv sv rv n F L) (hn : n ≤ 16) (i : Nat) (hi : i < n) (v : Value) (hv : F (i : Int) = some v) :
    Calls Try.prog 62 (fnArgs q i) W fun e W' => e = .returned v ∧ W = W' := by
  have hlk := MapV.lookOk h.map Try.underlying116 (zero_pairs W) (s := (i : Int)) (int_ok (by omega))
  rw [hv] at hlk
  obtain ⟨u, hu, hO⟩ := h.hit i hi
  obtain rfl : u = v := by rw [hv] at hu; exact (Option.some.inj hu).symm
  obtain ⟨A, cap, rfl, _⟩ := hO.form
  have HLK : Hid ((Instr.lookup 116 (.map (some (q + 3))) (.int .i64 (i : Nat)) true).run Try.prog W = .ok (.tuple #[.slice A (L i).length cap, .bool true]) W) := Lib.hid hlk
  obtain ⟨m, hm⟩ : ∃ m, (L i).length = m := ⟨_, rfl⟩
  rw [hm] at HLK ⊢
  obtain ⟨c4, _⟩ := box1 h.box.m
  clear hlk hv hu hO h hm
  go_enter Try.func62, Try.ntmps62
  go_wp2_with (at_lookup; refine wpList_lookup_ran rfl _ _ _ _ rfl rfl rfl HLK.out ?_)
  go_ret
  exact ⟨rfl, rfl⟩

theorem fnd_new (w : World) (gv sv rv : Value) (L : Nat → List Pr) :
    Fnd ((((((w.alloc (gObj gv)).alloc (sObj sv)).alloc (.cells #[rv] 37)).alloc (.map #[] 0)).alloc (.cells #[.map (some (w.heap.size + 3))] 116)).alloc (.cells #[fnV w.heap.size] 89)) w.heap.size gv sv rv 0 (fun _ => none) L := by
  obtain ⟨w3, hw3⟩ : ∃ w3, ((w.alloc (gObj gv)).alloc (sObj sv)).alloc (.cells #[rv] 37) = w3 := ⟨_, rfl⟩
  have s3 : w3.heap.size = w.heap.size + 3 := by rw [← hw3]; simp
  have b0 : w3.heap[w.heap.size]? = some (gObj gv) := by rw [← hw3]; exact (Below.heap_alloc _ _ _ (by simp <;> omega)).trans ((Below.heap_alloc _ _ _ (by simp)).trans (heap_alloc_new w _))
  have b1 : w3.heap[w.heap.size + 1]? = some (sObj sv) := by
    rw [← hw3]
    have := heap_alloc_new (w.alloc (gObj gv)) (sObj sv)
    rw [World.size_alloc] at this
    exact (Below.heap_alloc _ _ _ (by simp)).trans this
  have b2 : w3.heap[w.heap.size + 2]? = some (.cells #[rv] 37) := by
    rw [← hw3]
    have := heap_alloc_new ((w.alloc (gObj gv)).alloc (sObj sv)) (.cells #[rv] 37)
    rwa [World.size_alloc, World.size_alloc] at this
  rw [hw3]
  obtain ⟨w4, hw4⟩ : ∃ w4, w3.alloc (.map #[] 0) = w4 := ⟨_, rfl⟩
  have s4 : w4.heap.size = w.heap.size + 4 := by rw [← hw4]; simp [s3]
  have hm : MapV iK w4 (w.heap.size + 3) 0 (fun _ => none) := by rw [← hw4, ← s3]; exact MapV.made iK w3
  have k4 : ∀ k, k < w3.heap.size → w4.heap[k]? = w3.heap[k]? := fun k hk => by rw [← hw4]; exact Below.heap_alloc _ _ _ hk
  rw [hw4]
  obtain ⟨w5, hw5⟩ : ∃ w5, w4.alloc (.cells #[.map (some (w.heap.size + 3))] 116) = w5 := ⟨_, rfl⟩
  have s5 : w5.heap.size = w.heap.size + 5 := by rw [← hw5]; simp [s4]
  have k5 : ∀ k, k < w4.heap.size → w5.heap[k]? = w4.heap[k]? := fun k hk => by rw [← hw5]; exact Below.heap_alloc _ _ _ hk
  have b4 : w5.heap[w.heap.size + 4]? = some (.cells #[.map (some (w.heap.size + 3))] 116) := by rw [← hw5, ← s4]; exact heap_alloc_new w4 _
  rw [hw5]
  obtain ⟨w6, hw6⟩ : ∃ w6, w5.alloc (.cells #[fnV w.heap.size] 89) = w6 := ⟨_, rfl⟩
  have s6 : w6.heap.size = w.heap.size + 6 := by rw [← hw6]; simp [s5]
  have k6 : ∀ k, k < w5.heap.size → w6.heap[k]? = w5.heap[k]? := fun k hk => by rw [← hw6]; exact Below.heap_alloc _ _ _ hk
  have b5 : w6.heap[w.heap.size + 5]? = some (.cells #[fnV w.heap.size] 89) := by rw [← hw6, ← s5]; exact heap_alloc_new w5 _
  rw [hw6]
  have kk : ∀ k, k < w3.heap.size → w6.heap[k]? = w3.heap[k]? := fun k hk => (k6 k (by omega)).trans ((k5 k (by omega)).trans (k4 k hk))
  exact ⟨⟨(kk _ (by omega)).trans b0, (kk _ (by omega)).trans b1, (kk _ (by omega)).trans b2, (k6 _ (by omega)).trans b4, b5⟩, MapV.at hm ((k6 _ (by omega)).trans (k5 _ (by omega))), (fun i hi => absurd hi (Nat.not_lt_zero _)), rfl, (fun _ _ => rfl), by omega⟩

set_option maxRecDepth 100000 in
set_option maxHeartbeats 1000000 in
theorem finder_calls (gv sv rv : Value) (GA SA RA : Option Addr) (gn gc sn sc rn rc : Nat) (w : World) (hg : gv = .slice GA gn gc) (hs : sv = .slice SA sn sc) (hr : rv = .slice RA rn rc) (L : Nat → List Pr) :
    Calls Try.prog 34 #[.agg #[gv], .agg #[sv], rv] w fun e W => e = .returned (fnV w.heap.size) ∧ Fnd W w.heap.size gv sv rv 0 (fun _ => none) L ∧ Below w.heap.size w W := by
  have HF := Lib.hid (fnd_new w gv sv rv L)
  have HB := Lib.hid ((((((((Below.refl w.heap.size w).alloc (Nat.le_refl _) (gObj gv)).alloc (by simp) (sObj sv)).alloc (by simp <;> omega) (.cells #[rv] 37)).alloc (by simp <;> omega) (.map #[] 0)).alloc (by simp <;> omega) (.cells #[.map (some (w.heap.size + 3))] 116)).alloc (by simp <;> omega) (.cells #[fnV w.heap.size] 89)))
  subst hg hs hr
  have hmm := @run_makeMap Try.prog
  go_enter Try.func34, Try.ntmps34
  go_wp2_with fail
  go_ret
  exact ⟨rfl, HF.out, HB.out⟩

end Go.Proofs.Ytmfndimejnbgkaa.Model
