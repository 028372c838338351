/-
  Contract of the model's allByKey: what comes of all values of each key.
-/
import Derived.Test.YtmfndimejnbgkaaModelCopy
namespace Go.Proofs.Ytmfndimejnbgkaa.Model
open Go Go.RowKit Go.Lib Go.Sort Go.Shelf Go.Maps Go.Proofs.Ytmfndimejnbgkaa.Law Go.Proofs.Ytmfndimejnbgkaa.Graph Go.Proofs.Ytmfndimejnbgkaa.Fold

theorem info_u32 : (Try.prog.info? 25).map (fun i => (i.zero, i.size, i.bytes)) = some (some (.int .u32 0), 1, 4) := by kernel_rfl
theorem zero_u32s (W : World) : (zeroValue 36).run Try.prog W = .ok (.slice none 0 0) W := by kernel_rfl
theorem u32V_one (x : Nat) : (u32V x).oneCell' = true := rfl
/-- Block b leads each key of the pairs to a row of its values, each row in a block of its own. -/
def Groups (W : World) (b n base : Nat) (l : List Pr) (G : ByteArray → Option Value) : Prop :=
  MapV sK W b n G ∧ (∀ k, k ∉ keysL l → G k = none) ∧ (∀ k ∈ keysL l, ∃ v, G k = some v ∧ OwnRow u32V 25 W base v (valsOf l k)) ∧
    (∀ k k' v v', G k = some v → G k' = some v' → k ≠ k' → v.ownBlock ≠ v'.ownBlock)
theorem valsOf_ne {l : List Pr} {k : ByteArray} (h : k ∈ keysL l) : 0 < (valsOf l k).length := by
  rcases Nat.eq_zero_or_pos (valsOf l k).length with h0 | h0
  · exact absurd h (valsOf_nil.1 (List.length_eq_zero_iff.1 h0))
  · exact h0
theorem OwnRow.some_block {W : World} {base : Nat} {v : Value} {l : List Nat} (h : OwnRow u32V 25 W base v l) (hp : 0 < l.length) : ∃ g, v.ownBlock = some g ∧ base ≤ g ∧ g < W.heap.size := by
  obtain ⟨g, cap, rfl, _, h1, h2⟩ := h.formP hp
  exact ⟨g, rfl, h1, h2⟩

/-- One more pair: the row that its key leads to, the append, the store. -/
theorem Groups.put {W : World} {b n base : Nat} {l : List Pr} {G : ByteArray → Option Value} (h : Groups W b n base l G) (hb : b < base) (hbase : base ≤ W.heap.size) (hn : n ≤ 5864062014805000) (p : Pr) (hps : Short p.key) (hroom : (l.length + 1) * 4 ≤ 140737488355328) :
    ∃ A len c A' len' c' W2 W3, (Instr.lookup 182 (.map (some b)) (.string p.key) false).run Try.prog W = .ok (.slice A len c) W ∧
      (Builtin.append_ #[36, 36] 36 #[.slice A len c, .slice (some ⟨W.heap.size, 0, none⟩) 1 1]).run Try.prog (W.alloc (.cells #[.int .u32 (p.val : Nat)] 25)) = .ok (.slice A' len' c') W2 ∧
      (Instr.mapUpdate 182 (.map (some b)) (.string p.key) (.slice A' len' c')).run Try.prog W2 = .ok () W3 ∧
      (∃ G', Groups W3 b (n + 1) base (l ++ [p]) G') ∧ (∀ k, k < base → k ≠ b → W3.heap[k]? = W.heap[k]?) ∧ (∀ k, k < base → W2.heap[k]? = W.heap[k]?) ∧ (∀ k, k < W.heap.size → (∀ key v, G key = some v → v.ownBlock ≠ some k) → W2.heap[k]? = W.heap[k]?) ∧ W.heap.size ≤ W3.heap.size ∧ W3.os = W.os ∧ W3.tape = W.tape ∧ W3.output = W.output := by
  obtain ⟨hM, hN, hR, hD⟩ := h
  obtain ⟨i0, hi, hz0, hz1, hz2⟩ := info_parts info_u32
  have hlk := MapV.look hM Try.underlying182 (zero_u32s W) (s := p.key) hps
  obtain ⟨v0, hv0⟩ : ∃ v0, (G p.key).getD (.slice none 0 0) = v0 := ⟨_, rfl⟩
  rw [hv0] at hlk
  have hO0 : OwnRow u32V 25 W base v0 (valsOf l p.key) := by
    by_cases hk : p.key ∈ keysL l
    · obtain ⟨v, h1, h2⟩ := hR _ hk
      rw [h1] at hv0
      subst hv0
      exact h2
    · rw [hN _ hk] at hv0
      subst hv0
      rw [valsOf_nil.2 hk]
      exact OwnRow.nil _ _ _
  obtain ⟨A, c, rfl, _⟩ := hO0.form
  obtain ⟨W1, hW1⟩ : ∃ W1, W.alloc (.cells #[.int .u32 (p.val : Nat)] 25) = W1 := ⟨_, rfl⟩
  have hB1 : Below W.heap.size W W1 := by rw [← hW1]; exact alloc_low _ _
  have hs1 : W1.heap.size = W.heap.size + 1 := by rw [← hW1]; simp
  have hlit : RowAt u32V (fun k => k = W.heap.size) W1 (.slice (some ⟨W.heap.size, 0, none⟩) 1 1) [p.val] := by
    refine ⟨_, 1, rfl, Nat.le_refl _, (fun h => by cases h), fun _ => ⟨W.heap.size, 0, rfl, rfl, fun j x hx => ?_⟩⟩
    have hj : j < 1 := (List.getElem?_eq_some_iff.1 hx).1
    obtain rfl : j = 0 := by omega
    obtain rfl : p.val = x := by simpa using hx
    rw [← hW1]
    exact cell_new W _ _ 0 _ rfl
  have hvl := valsOf_len l p.key
  obtain ⟨v', W2, R2, O2, G2, B2⟩ := run_append_row (P := Try.prog) W1 (t := 36) 36 u32V_one Try.underlying36 hi hz0 hz1 hz2 (by decide) (hO0.below hB1) hlit (by simp only [maxLen, List.length_singleton]; omega) (by simp only [List.length_singleton]; omega) (by omega)
  obtain ⟨A', c', rfl, _⟩ := O2.form
  have hst := valsOf_snoc l p
  have hG2 : ∀ k, k < base → W2.heap[k]? = W.heap[k]? := fun k hk => (G2.block k (by omega) (fun e => by have := (hO0.own e.symm).1; omega)).trans (hB1.block k (by omega))
  have hM2 : MapV sK W2 b n G := MapV.at hM (hG2 b hb)
  obtain ⟨W3, R3, M3, G3, s3⟩ := hM2.store Try.underlying182 (by simp only [maxLen]; omega) (s := p.key) hps (.slice A' (valsOf l p.key ++ [p.val]).length c')
  have hne3 : ∀ g, base ≤ g → g < W2.heap.size → W3.heap[g]? = W2.heap[g]? := fun g h1 h2 => G3.block g h2 (fun e => by cases e; omega)
  refine ⟨A, _, c, A', _, c', W2, W3, hlk, by rw [hW1]; exact R2, R3, ⟨_, M3, fun k hk => ?_, fun k hk => ?_, fun k k' u u' hu hu' hkk => ?_⟩, fun k hk hkb => (G3.block k (by have := G2.size; omega) (fun e => hkb (by cases e; rfl))).trans (hG2 k hk), hG2, fun k hk hno => (G2.block k (by omega) (fun e => ?_)).trans (hB1.block k hk), by rw [s3]; have := G2.size; omega, ?_, ?_, ?_⟩
  · rw [keysL_snoc] at hk
    have hkp : k ≠ p.key := fun e => hk (by subst e; split <;> simp [*])
    show (if k = p.key then _ else G k) = none
    rw [if_neg hkp]
    refine hN k fun e => hk ?_
    split
    · exact e
    · exact List.mem_append_left _ e
  · by_cases hkp : k = p.key
    · subst hkp
      refine ⟨_, if_pos rfl, ?_⟩
      rw [hst, if_pos rfl]
      exact O2.keep fun g hg => hne3 g (O2.own hg).1 (O2.own hg).2
    · have hk' : k ∈ keysL l := by
        rw [keysL_snoc] at hk
        split at hk
        · exact hk
        · rcases List.mem_append.1 hk with h | h
          · exact h
          · exact absurd (List.mem_singleton.1 h) hkp
      obtain ⟨u, h1, h2⟩ := hR k hk'
      refine ⟨u, (if_neg hkp).trans h1, ?_⟩
      rw [hst, if_neg hkp]
      obtain ⟨g, hg, hg1, hg2⟩ := OwnRow.some_block h2 (valsOf_ne hk')
      have hne : some g ≠ (Value.slice A (valsOf l p.key).length c).ownBlock := by
        intro e
        by_cases hpk : p.key ∈ keysL l
        · obtain ⟨w0, h3, _⟩ := hR _ hpk
          rw [h3] at hv0
          have : w0 = .slice A (valsOf l p.key).length c := hv0
          subst this
          exact hD _ _ _ _ h1 h3 hkp (by rw [hg, e])
        · rw [valsOf_nil.2 hpk] at hO0 e
          rcases hO0.2 with ⟨h0, _⟩ | ⟨g', cap, cur, h0, _⟩
          · simp only [List.length_nil] at e h0
            rw [h0] at e; cases e
          · rw [hN _ hpk] at hv0
            have h4 : Value.slice none 0 0 = .slice A (valsOf l p.key).length c := hv0
            rw [valsOf_nil.2 hpk] at h4
            simp only [List.length_nil] at e h4
            rw [← h4] at e; cases e
      exact h2.keep fun g' hg' => by
        obtain rfl : g = g' := by rw [hg] at hg'; exact Option.some.inj hg'
        exact (hne3 g hg1 (by have := G2.size; omega)).trans ((G2.block g (by omega) hne).trans (hB1.block g hg2))
  · have hold : ∀ {k : ByteArray} {u : Value}, k ≠ p.key → (if k = p.key then some (Value.slice A' (valsOf l p.key ++ [p.val]).length c') else G k) = some u → G k = some u := fun hk h => by rwa [if_neg hk] at h
    have hblk : ∀ {k : ByteArray} {u : Value}, k ≠ p.key → G k = some u → u.ownBlock ≠ (Value.slice A' (valsOf l p.key ++ [p.val]).length c').ownBlock := fun {k u} hk hu => by
      have hk' : k ∈ keysL l := Decidable.byContradiction fun e => by rw [hN k e] at hu; cases hu
      obtain ⟨u2, h1, h2⟩ := hR k hk'
      obtain rfl : u2 = u := by rw [h1] at hu; exact Option.some.inj hu
      obtain ⟨g, hg, hg1, hg2⟩ := OwnRow.some_block h2 (valsOf_ne hk')
      rw [hg]
      rcases B2 with e | e
      · rw [e]
        intro e2
        by_cases hpk : p.key ∈ keysL l
        · obtain ⟨w0, h3, _⟩ := hR _ hpk
          rw [h3] at hv0
          have : w0 = .slice A (valsOf l p.key).length c := hv0
          subst this
          exact hD _ _ _ _ h1 h3 hk (by rw [hg, e2])
        · rw [hN _ hpk] at hv0
          have h4 : Value.slice none 0 0 = .slice A (valsOf l p.key).length c := hv0
          rw [← h4] at e2; cases e2
      · rw [e]
        intro e2
        have := Option.some.inj e2
        omega
    by_cases h1 : k = p.key
    · have h2 : k' ≠ p.key := fun e => hkk (h1.trans e.symm)
      have hu2 : u = .slice A' (valsOf l p.key ++ [p.val]).length c' := by
        have : (if k = p.key then some (Value.slice A' (valsOf l p.key ++ [p.val]).length c') else G k) = some u := hu
        rw [if_pos h1] at this; exact (Option.some.inj this).symm
      rw [hu2]
      exact (hblk h2 (hold h2 hu')).symm
    · by_cases h2 : k' = p.key
      · have hu2 : u' = .slice A' (valsOf l p.key ++ [p.val]).length c' := by
          have : (if k' = p.key then some (Value.slice A' (valsOf l p.key ++ [p.val]).length c') else G k') = some u' := hu'
          rw [if_pos h2] at this; exact (Option.some.inj this).symm
        rw [hu2]
        exact hblk h1 (hold h1 hu)
      · exact hD _ _ _ _ (hold h1 hu) (hold h2 hu') hkk
  · cases hg : G p.key with
    | none =>
      rw [hg] at hv0
      have h4 : Value.slice none 0 0 = .slice A (valsOf l p.key).length c := hv0
      rw [← h4] at e; cases e
    | some u =>
      rw [hg] at hv0
      have h4 : u = .slice A (valsOf l p.key).length c := hv0
      exact hno _ _ hg (by rw [h4]; exact e.symm)
  · rw [G3.os, G2.os, hB1.os]
  · rw [G3.tape, G2.tape, hB1.tape]
  · rw [G3.output, G2.output, hB1.output]

theorem Groups.start (W : World) : Groups (W.alloc (.map #[] 0)) W.heap.size 0 (W.heap.size + 1) [] (fun _ => none) :=
  ⟨MapV.made sK W, (fun _ _ => rfl), (fun k hk => by simp [keysL] at hk), fun _ _ _ _ h => by cases h⟩
theorem Groups.below {W W' : World} {b n base : Nat} {l : List Pr} {G : ByteArray → Option Value} (h : Groups W b n base l G) (hB : Below W.heap.size W W') : Groups W' b n base l G :=
  ⟨MapV.below h.1 hB, h.2.1, fun k hk => by obtain ⟨v, h1, h2⟩ := h.2.2.1 k hk; exact ⟨v, h1, h2.below hB⟩, h.2.2.2⟩
theorem Groups.row_lt {W : World} {b n base : Nat} {l : List Pr} {G : ByteArray → Option Value} (h : Groups W b n base l G) {key : ByteArray} {v : Value} (hv : G key = some v) : v.ownBlock ≠ some W.heap.size := fun e => by
  have hk : key ∈ keysL l := Decidable.byContradiction fun e => by rw [h.2.1 key e] at hv; cases hv
  obtain ⟨u, h1, h2⟩ := h.2.2.1 key hk
  rw [hv] at h1
  obtain rfl := Option.some.inj h1
  have := (h2.own e).2
  omega

/-- The pair's half of allByKey: the map of the rows. -/
def leftF (rest : List ByteArray) (F : ByteArray → Option Nat) : ByteArray → Option Nat := fun k => if k ∈ rest then none else F k

set_option maxRecDepth 100000 in
set_option maxHeartbeats 8000000 in
theorem allByKey_calls (x : Int) (hx : isF x = true) (l : List Pr) (hwf : wfP l) (hlen : l.length * 24 ≤ 140737488355328) (v : Value) (w : World) (h : OldP w.heap.size w v l) :
    Calls Try.prog 111 #[.int .i64 x, v] w (RetM (grpF x l) l.length w) := by
  obtain ⟨A, cap, rfl, _⟩ := h.form
  obtain ⟨n, hN⟩ : ∃ n, l.length = n := ⟨_, rfl⟩
  rw [hN] at h hlen ⊢
  obtain ⟨q, hq⟩ : ∃ q, w.heap.size = q := ⟨_, rfl⟩
  obtain ⟨W1, hW1⟩ : ∃ W1, w.alloc (.map #[] 0) = W1 := ⟨_, rfl⟩
  have hB1 : Below q w W1 := by rw [← hW1, ← hq]; exact alloc_low _ _
  have hg1 : Groups W1 q 0 (q + 1) [] (fun _ => none) := by rw [← hW1, ← hq]; exact Groups.start w
  have hs1 : q + 1 ≤ W1.heap.size := by rw [← hW1, ← hq]; simp
  have HW := Lib.hid hW1
  have HB1 := Lib.hid hB1
  have HG1 := Lib.hid hg1
  have HQ := Lib.hid hq
  have HN := Lib.hid hN
  have HI := Lib.hid h
  have HWF := Lib.hid hwf
  have HX := Lib.hid hx
  have HLEN := Lib.hid hlen
  have hnn : n ≤ 5864062014805 := by omega
  have hmm := @run_makeMap Try.prog
  clear hW1 hB1 hg1 hN h hwf hlen hq hx
  go_enter Try.func111, Try.ntmps111
  go_wp2_with fail
  rw [HW.out, HQ.out]
  go_loopw [14] (fun i wr => ∃ k : Nat, i = .int .i64 k ∧ k ≤ n ∧ Hid ((∃ G, Groups wr q k (q + 1) (l.take k) G) ∧ Below q w wr ∧ q + 1 ≤ wr.heap.size)) (fun i _ => n - (intOf i).toNat)
  case atStart => exact ⟨0, rfl, Nat.zero_le _, Lib.hid ⟨⟨_, by rw [List.take_zero]; exact HG1.out⟩, HB1.out, hs1⟩⟩
  case round =>
    obtain ⟨k, rfl, hk, HO⟩ := hrel
    by_cases hlt : k < n
    · obtain ⟨p, hp⟩ : ∃ p, l[k]? = some p := ⟨_, List.getElem?_eq_getElem (by rw [HN.out]; exact hlt)⟩
      obtain ⟨⟨G, hG⟩, hB, hs⟩ := HO.out
      obtain ⟨b, off, rfl, hb, hc⟩ := (TwoAt.low (HQ.out ▸ hB) HI.out).at (by omega)
      obtain ⟨c0, c1⟩ := hc k p hp
      obtain ⟨hps, hpv⟩ := HWF.out p (List.mem_of_getElem? hp)
      obtain ⟨s, hs'⟩ : ∃ s, wr.heap.size = s := ⟨_, rfl⟩
      obtain ⟨W2, hW2⟩ : ∃ W2, wr.alloc (prObj p) = W2 := ⟨_, rfl⟩
      have hB2 : Below wr.heap.size wr W2 := by rw [← hW2]; exact alloc_low _ _
      have hP2 : W2.heap[s]? = some (prObj p) := by rw [← hW2, ← hs']; exact heap_alloc_new wr _
      have hs2 : W2.heap.size = s + 1 := by rw [← hW2, ← hs']; simp
      have hgl := HLEN.out
      have htl : (l.take k).length = k := by rw [List.length_take, HN.out]; omega
      obtain ⟨A2, n2, c2, A3, n3, c3, W4, W5, R1, R2, R3, hG5, hold, hold4, hold5, hsz5, o1, o2, o3⟩ := ((hG.below hB2).below (W' := W2.drew) (Below.refl _ _).drew).put (by omega) (by show q + 1 ≤ W2.heap.size; omega) (by omega) p hps (by rw [htl]; omega)
      have hst : l.take (k + 1) = l.take k ++ [p] := Graph.take_snoc hp
      rw [← hst] at hG5
      have h4s : W4.heap[s]? = some (prObj p) := (hold5 s (by show s < W2.heap.size; omega) (fun key u hu => by rw [← hs']; exact hG.row_lt hu)).trans hP2
      have h4q : W4.heap[q]? = W2.heap[q]? := hold4 q (by omega)
      have HK1 : Hid (k + 1 ≤ n) := Lib.hid hlt
      have HW2 := Lib.hid hW2
      have hM2 := (hG.below hB2).1
      have HC : Hid (∀ w' : World, (w'.heap[q]? = W2.heap[q]? ∧ w'.heap[s]? = some (prObj p)) → (w'.cell? ⟨s, 0, none⟩ = some (.string p.key) ∧ w'.cell? ⟨s, 1, none⟩ = some (.int .u32 (p.val : Nat))) ∧ (Instr.lookup 182 (.map (some q)) (.string p.key) false).run Try.prog w' = .ok (.slice A2 n2 c2) w') := Lib.hid fun w' hw' => by
        refine ⟨boxP hw'.2, ?_⟩
        have e1 := MapV.look hM2 Try.underlying182 (zero_u32s _) (s := p.key) hps
        have e2 : (Instr.lookup 182 (.map (some q)) (.string p.key) false).run Try.prog W2.drew = .ok (.slice A2 n2 c2) W2.drew := R1
        have e3 := MapV.look (MapV.at hM2 (W' := W2.drew) rfl) Try.underlying182 (zero_u32s _) (s := p.key) hps
        have e4 := MapV.look (MapV.at hM2 (W' := w') hw'.1) Try.underlying182 (zero_u32s _) (s := p.key) hps
        have e5 : (G p.key).getD (.slice none 0 0) = .slice A2 n2 c2 := by
          have h6 := e3.symm.trans e2
          simpa using h6
        rw [e5] at e4
        exact e4
      have HR2 : Hid ((Builtin.append_ #[36, 36] 36 #[.slice A2 n2 c2, .slice (some ⟨W2.heap.size, 0, none⟩) 1 1]).run Try.prog ((W2.alloc (.cells #[.int .u32 (p.val : Nat)] 25)).drew) = .ok (.slice A3 n3 c3) W4) := Lib.hid (by exact R2)
      have HR3 := Lib.hid R3
      have HP2 := Lib.hid hP2
      have HS2 := Lib.hid hs2
      have H4 : Hid (W4.heap[q]? = W2.heap[q]? ∧ W4.heap[s]? = some (prObj p)) := Lib.hid ⟨h4q, h4s⟩
      have HA : Hid ((((W2.alloc (.cells #[.int .u32 (p.val : Nat)] 25)).drew).heap[q]? = W2.heap[q]?) ∧ ((W2.alloc (.cells #[.int .u32 (p.val : Nat)] 25)).drew).heap[s]? = some (prObj p)) := Lib.hid ⟨Below.heap_alloc W2 _ _ (by omega), (Below.heap_alloc W2 _ _ (by omega)).trans hP2⟩
      have HF : Hid ((∃ G, Groups W5 q (k + 1) (q + 1) (l.take (k + 1)) G) ∧ Below q w W5 ∧ q + 1 ≤ W5.heap.size) := Lib.hid ⟨hG5, ⟨o1.trans (hB2.os.trans hB.os), o2.trans (hB2.tape.trans hB.tape), o3.trans (hB2.output.trans hB.output), by have h6 := hB.size; have h7 : W2.heap.size ≤ W5.heap.size := hsz5; omega, fun j hj => (hold j (by omega) (by omega)).trans ((hB2.block j (by omega)).trans (hB.block j hj))⟩, by have h7 : W2.heap.size ≤ W5.heap.size := hsz5; omega⟩
      clear hG hB hc hp hps hpv hW2 hB2 hP2 hs2 R1 R2 R3 hG5 hold hold4 hold5 hsz5 o1 o2 o3 hst h4s h4q hM2 HO htl hgl hb
      subst hs'
      go_upto_region 5 with fail
      rw [HW2.out]
      refine wp_region_noPanic ?_
      refine wp_region_held_tail (C := fun w' => w'.heap[q]? = W2.heap[q]? ∧ w'.heap[wr.heap.size]? = some (prObj p)) [0, 1, 2, 3, 4, 5, 6, 7, 8] [9, 10, 11] 11 (by kernel_rfl) (by kernel_rfl) (fun _ _ _ _ _ h => h) ?_ ?_
      · exact ⟨rfl, HP2.out⟩
      iterate 9
        refine heldI_step (v := ?_) rfl (by rfl) (fun w' hw' => ?_) ?_
        rotate_left
        · obtain ⟨⟨k0, k1⟩, k2⟩ := HC.out w' hw'
          go_simp
          all_goals with_reducible rfl
        simp only [Act.put, List.getElem_toArray, List.getElem_cons_succ, List.getElem_cons_zero, List.setIfInBounds_toArray, List.set_cons_succ, List.set_cons_zero]
      refine heldI_nil ?_
      refine seqI_step rfl ?_
      simp only [List.getElem_toArray, List.getElem_cons_succ, List.getElem_cons_zero]
      go_wp2_with fail
      refine ⟨HA.out, ?_⟩
      refine seqI_step rfl ?_
      simp only [List.getElem_toArray, List.getElem_cons_succ, List.getElem_cons_zero]
      go_wp2_with (at_builtin; refine wpList_append_ran rfl _ _ _ rfl rfl rfl HR2.out ?_)
      refine ⟨H4.out, ?_⟩
      refine seqI_last rfl ?_
      simp only [List.getElem_toArray, List.getElem_cons_succ, List.getElem_cons_zero]
      go_wp2_with (at_mapUpdate; refine wpList_mapUpdate_ran rfl _ _ _ _ rfl rfl rfl rfl HR3.out ?_)
      refine NoPanic.normal ?_
      go_wp2_with fail
      go_roundw
      case rel => exact ⟨k + 1, by go_num, HK1.out, HF⟩
      case measure => have h := HK1.out; simp [intOf]; omega
    · obtain rfl : k = n := by omega
      obtain ⟨⟨G, hG⟩, hB, hs⟩ := HO.out
      rw [List.take_of_length_le (by rw [HN.out]; exact Nat.le_refl _)] at hG
      obtain ⟨mb, hmb⟩ : ∃ mb, wr.heap.size = mb := ⟨_, rfl⟩
      obtain ⟨W6, hW6⟩ : ∃ W6, wr.alloc (.map #[] 0) = W6 := ⟨_, rfl⟩
      have hB6 : Below mb wr W6 := by rw [← hW6, ← hmb]; exact alloc_low _ _
      have hs6 : W6.heap.size = mb + 1 := by rw [← hW6, ← hmb]; simp
      have hm6 : MapU W6 mb 0 (fun _ => none) := by rw [← hW6, ← hmb]; exact MapU.made wr
      have hG6 : Groups W6 q k (q + 1) l G := hG.below (hmb ▸ hB6)
      have hks : ∀ s ∈ keysL l, Short s := fun s hs => by
        obtain ⟨p, hp, rfl⟩ := mem_keysL.1 hs
        exact (HWF.out p hp).1
      have hdom : ∀ s, sK.ok s → ((G s).isSome ↔ s ∈ keysL l) := fun s _ => by
        constructor
        · intro h
          exact Decidable.byContradiction fun e => by rw [hG.2.1 s e] at h; cases h
        · intro h
          obtain ⟨v, hv, _⟩ := hG.2.2.1 s h
          rw [hv]; rfl
      obtain ⟨W7, cnt, hrun, hR, hg7, hs7⟩ := MapV.rng hG6.1 Try.underlying182 (keysL l) (keysL_nodup l) hks hdom
      rw [hs6] at hrun hR hs7
      have hkl := keysL_len l
      rw [HN.out] at hkl
      have hB7 : Below q w W7 := (hB.trans (hB6.mono (by omega))).grown hg7 (by omega) (fun j hj => by cases hj)
      have hm7 : MapU W7 mb ((keysL l).length - (keysL l).length) (leftF (keysL l) (grpF x l)) := by
        rw [Nat.sub_self]
        refine MapV.same (MapV.kept hm6 hg7 (by simp)) fun s _ => ?_
        show none = (leftF (keysL l) (grpF x l) s).map u32V
        unfold leftF
        split
        · rfl
        · rename_i hno
          cases hF : grpF x l s with
          | none => rfl
          | some y => exact absurd (grpF_some.1 (by rw [hF]; rfl)) hno
      have HW6 := Lib.hid hW6
      have HRL : Hid (∀ key v, G key = some v → v.ownBlock ≠ some mb) := Lib.hid fun key v hv => by rw [← hmb]; exact hG.row_lt hv
      have HRUN := Lib.hid hrun
      have HR := Lib.hid hR
      have HG6 := Lib.hid hG6
      have HS6 := Lib.hid hs6
      have H7 : Hid (MapU W7 mb ((keysL l).length - (keysL l).length) (leftF (keysL l) (grpF x l)) ∧ (keysL l).length ≤ (keysL l).length ∧ (keysL l).Nodup ∧ (∀ s ∈ keysL l, s ∈ keysL l) ∧ W6.grownBy W7 (some mb) ∧ Below q w W7) := Lib.hid ⟨hm7, Nat.le_refl _, keysL_nodup l, fun _ h => h, ⟨hg7.os, hg7.tape, hg7.output, hg7.size, fun j hj _ => hg7.block j hj (by simp)⟩, hB7⟩
      have hqm : q + 1 ≤ mb := by omega
      have HKL := Lib.hid hkl
      clear hG hB hs hB6 hs6 hm6 hG6 hks hdom hrun hR hg7 hs7 hkl hB7 hm7 HO
      subst hmb
      obtain ⟨wA, rfl⟩ : ∃ z, z = wr := ⟨_, rfl⟩
      go_wp2_with (at_range; refine wpList_range_ran rfl _ _ rfl rfl HRUN.out ?_)
      go_frame
      go_loopw [33] (fun _ wr => ∃ (rest : List ByteArray) (c : Nat), RngV sK wr q (wA.heap.size + 1) k G rest c ∧ Hid (MapU wr wA.heap.size ((keysL l).length - rest.length) (leftF rest (grpF x l)) ∧ rest.length ≤ (keysL l).length ∧ rest.Nodup ∧ (∀ s ∈ rest, s ∈ keysL l) ∧ W6.grownBy wr (some wA.heap.size) ∧ Below q w wr)) (fun _ wr => wr.rangeLeft q (wA.heap.size + 1))
      case atStart => exact ⟨keysL l, cnt, HR.out, H7⟩
      case round =>
        obtain ⟨rest, c, hrng, HO⟩ := hrel
        have hleft := RngV.left hrng
        rcases RngV.next hrng 0 with ⟨rfl, hnx⟩ | ⟨s, v, w2, c2, hsr, hsh, hF, hnx, hrng2, hlt2, hg2, hs2, hen⟩
        · have HNX := Lib.hid hnx
          obtain ⟨hM, _, _, _, hGw, hBw⟩ := HO.out
          have HF : Hid (RetM (grpF x l) k w (.returned (.map (some wA.heap.size))) wr) := Lib.hid ⟨_, rfl, by rw [HQ.out]; omega, MapV.mono (MapV.same hM fun s _ => by show (leftF [] (grpF x l) s).map u32V = _; unfold leftF; simp) (by have := HKL.out; simp; omega), by rw [HQ.out]; exact hBw⟩
          clear hnx hrng hleft hM hGw hBw HO
          go_wp2_with (at_next; refine wpList_next_ran rfl _ _ rfl rfl HNX.out ?_)
          go_ret
          exact HF.out
        · obtain ⟨hM, hle, hnd, hsub, hGw, hBw⟩ := HO.out
          have hgs := hGw.size
          rw [HS6.out] at hgs
          obtain ⟨u, hu, hrow⟩ := HG6.out.2.2.1 s (hsub s hsr)
          obtain rfl : u = v := by rw [hF] at hu; exact (Option.some.inj hu).symm
          obtain ⟨gb, hgb, hgb1, hgb2⟩ := OwnRow.some_block hrow (valsOf_ne (hsub s hsr))
          have hnemb : gb ≠ wA.heap.size := fun e => HRL.out s u hF (by rw [hgb, e])
          have hrow2 : OwnRow u32V 25 w2 (q + 1) u (valsOf l s) := hrow.keep fun g hg => by
            obtain rfl : gb = g := by rw [hgb] at hg; exact Option.some.inj hg
            exact (hg2.block gb (by rw [HS6.out] at hgb2; omega) (fun e => by cases e; rw [HS6.out] at hgb2; omega)).trans (hGw.block gb hgb2 (fun e => hnemb (by cases e; rfl)))
          obtain ⟨ua, uc, rfl, _⟩ := hrow2.form
          obtain ⟨y, hy⟩ : ∃ y, grpF x l s = some y := Option.isSome_iff_exists.1 (grpF_some.2 (hsub s hsr))
          have hal : alN x (valsOf l s) = (y, true) := alN_some HX.out hy
          have hvl := valsOf_len l s
          rw [HN.out] at hvl
          have CA := all_calls x (valsOf l s) (fun z hz => by
            obtain ⟨p, hp, _, rfl⟩ := valsOf_mem hz
            exact (HWF.out p hp).2) (by simp only [maxLen]; omega) _ w2 hrow2.old
          rw [hal] at CA
          have hM2 : MapU w2 wA.heap.size ((keysL l).length - rest.length) (leftF rest (grpF x l)) := MapV.kept hM hg2 (fun e => by have := Option.some.inj e; omega)
          have hkl := HKL.out
          obtain ⟨W3, R3, M3, G3, s3⟩ := hM2.store (by omega) hsh y
          have hrl := cut_length hsr
          have hM3 : MapU W3 wA.heap.size ((keysL l).length - (cut rest s).length) (leftF (cut rest s) (grpF x l)) := by
            refine MapV.mono (MapV.same M3 fun z _ => ?_) (by omega)
            show (if z = s then some y else leftF rest (grpF x l) z).map u32V = (leftF (cut rest s) (grpF x l) z).map u32V
            congr 1
            unfold leftF
            by_cases hz : z = s
            · subst hz
              rw [if_pos rfl, if_neg (fun e => ((mem_cut hnd).1 e).1 rfl), hy]
            · rw [if_neg hz]
              by_cases hm : z ∈ rest
              · rw [if_pos hm, if_pos ((mem_cut hnd).2 ⟨hz, hm⟩)]
              · rw [if_neg hm, if_neg (fun e => hm ((mem_cut hnd).1 e).2)]
          have hr3 : RngV sK W3 q (wA.heap.size + 1) k G (cut rest s) c2 := RngV.kept hrng2 G3 (fun e => by have := Option.some.inj e; omega) (fun e => by have := Option.some.inj e; omega)
          have hGW3 : W6.grownBy W3 (some wA.heap.size) := (hGw.andThen hg2 (fun j hj => .inl (by cases hj; rw [HS6.out]; exact Nat.le_refl _))).andThen G3 (fun j hj => .inr hj)
          have hBW3 : Below q w W3 := (hBw.grown hg2 (by omega) (fun j hj => by cases hj; omega)).grown G3 (by omega) (fun j hj => by cases hj; omega)
          have hl3 := RngV.left hr3
          have HNX := Lib.hid hnx
          have HEN := Lib.hid hen
          have HR3 := Lib.hid R3
          have HRG := Lib.hid hr3
          have HCA := Lib.hid CA
          have HF' : Hid (MapU W3 wA.heap.size ((keysL l).length - (cut rest s).length) (leftF (cut rest s) (grpF x l)) ∧ (cut rest s).length ≤ (keysL l).length ∧ (cut rest s).Nodup ∧ (∀ z ∈ cut rest s, z ∈ keysL l) ∧ W6.grownBy W3 (some wA.heap.size) ∧ Below q w W3) := Lib.hid ⟨hM3, by omega, cut_nodup hnd _, fun z hz => hsub z ((mem_cut hnd).1 hz).2, hGW3, hBW3⟩
          obtain ⟨ul, hul⟩ : ∃ ul, (valsOf l s).length = ul := ⟨_, rfl⟩
          rw [hul] at HCA HNX HEN
          clear hnx hen hrng hrng2 hM hM2 R3 M3 G3 hM3 hr3 hGW3 hBW3 HO hgs hGw hBw hnd hle hg2 hrl hF hsh CA hrow hrow2 hgb hgb1 hgb2 hnemb hy hal hvl hsub hu hkl s3 hul
          go_wp2_with (first | (at_next; refine wpList_next_ran rfl _ _ rfl rfl HNX.out ?_) | (refine wpList_entry_ran (o := ⟨some 35, _, _, _, _, _⟩) rfl _ rfl rfl HEN.out ?_) | (go_at_call 135; refine HCA.out.mono ?_; rintro e w4 ⟨rfl, rfl⟩) | (at_mapUpdate; refine wpList_mapUpdate_ran rfl _ _ _ _ rfl rfl rfl rfl HR3.out ?_))
          go_roundw
          case rel => exact ⟨_, _, _, _, _, _, _, _, _, _, _, _, _, _, _, ⟨cut rest s, c2, HRG.out, HF'⟩, rfl⟩
          case measure => rw [hleft, hl3]; exact hlt2

end Go.Proofs.Ytmfndimejnbgkaa.Model
