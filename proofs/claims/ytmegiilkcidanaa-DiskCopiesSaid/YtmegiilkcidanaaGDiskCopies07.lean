/-
  Put together out of texts of one chain: what they hold stands ahead of each.
-/
import Derived.Test.YtmegiilkcidanaaGDiskCopies05
import Derived.Test.YtmegiilkcidanaaGDiskCopies19
import Derived.Test.YtmegiilkcidanaaMapOps
/-
  What `with` and `without` do to a list of files, by name.
-/
namespace Go.Proofs.Ytmegiilkcidanaa.Disk
open Go Go.RowKit Go.Sort Go.Lib Go.Proofs.Ytmegiilkcidanaa.Law

theorem getF_find (l : List RF) (s : ByteArray) : getF l s = l.find? fun p => decide (p.1.1 = s) := by
  rw [getF, findP, List.find?_eq_bind_findIdx?_getElem?]
theorem getF_cons (p : RF) (l : List RF) (s : ByteArray) : getF (p :: l) s = if p.1.1 = s then some p else getF l s := by
  rw [getF_find, getF_find, List.find?_cons]
  by_cases h : p.1.1 = s <;> simp [h]
theorem getF_filter (l : List RF) (s t : ByteArray) : getF (l.filter (neN s)) t = if t = s then none else getF l t := by
  induction l with
  | nil => simp [getF, findP]
  | cons p r ih =>
    by_cases hp : p.1.1 = s
    · have h1 : neN s p = false := by simp [neN, hp]
      rw [List.filter_cons, h1]
      simp only [Bool.false_eq_true, if_false]
      rw [ih, getF_cons]
      by_cases ht : t = s
      · simp [ht]
      · have : ¬ p.1.1 = t := by rw [hp]; exact fun e => ht e.symm
        simp [ht, this]
    · have h1 : neN s p = true := by simp [neN, hp]
      rw [List.filter_cons, h1]
      simp only [if_true]
      rw [getF_cons, ih, getF_cons]
      by_cases ht : t = s
      · subst ht; simp [hp]
      · simp [ht]

/-- `with`, by recursion. -/
def withR (s : ByteArray) (x : RF) : List RF → List RF
  | [] => [x]
  | p :: r => if ltN p.1.1 s = true then p :: withR s x r else x :: (p :: r).filter (neN s)
theorem fold_done (s : ByteArray) (x : RF) : ∀ (l out : List RF), l.foldl (stepW s x) (out, true) = (out ++ l.filter (neN s), true)
  | [], out => by simp
  | p :: r, out => by
    rw [List.foldl_cons]
    by_cases hp : p.1.1 = s
    · have h1 : neN s p = false := by simp [neN, hp]
      have h2 : stepW s x (out, true) p = (out, true) := by simp [stepW, hp]
      rw [h2, fold_done s x r out, List.filter_cons, h1]; rfl
    · have h1 : neN s p = true := by simp [neN, hp]
      have h2 : stepW s x (out, true) p = (out ++ [p], true) := by simp [stepW, hp]
      rw [h2, fold_done s x r (out ++ [p]), List.filter_cons, h1]
      simp
def fin (x : RF) (st : List RF × Bool) : List RF := if st.2 then st.1 else st.1 ++ [x]
theorem fold_with (s : ByteArray) (x : RF) : ∀ (l out : List RF), fin x (l.foldl (stepW s x) (out, false)) = out ++ withR s x l
  | [], out => by simp [fin, withR]
  | p :: r, out => by
    rw [List.foldl_cons]
    by_cases hl : ltN p.1.1 s = true
    · have hp : p.1.1 ≠ s := by
        intro e
        rw [e, ltN, bytesLess_irr] at hl
        exact absurd hl (by decide)
      have h2 : stepW s x (out, false) p = (out ++ [p], false) := by simp [stepW, hp, hl]
      rw [h2, fold_with s x r (out ++ [p]), withR, if_pos hl]
      simp
    · have hl' : ltN p.1.1 s = false := by simpa using hl
      have h2 : stepW s x (out, false) p = stepW s x (out ++ [x], true) p := by simp [stepW, hl']
      have h3 : r.foldl (stepW s x) (stepW s x (out ++ [x], true) p) = (out ++ [x] ++ (p :: r).filter (neN s), true) := by
        have := fold_done s x (p :: r) (out ++ [x])
        rwa [List.foldl_cons] at this
      rw [h2, h3, withR, if_neg hl]
      simp [fin]
theorem withF_eq (s : ByteArray) (x : RF) (l : List RF) : withF s x l = withR s x l := by
  have := fold_with s x l []
  rw [List.nil_append] at this
  rw [← this]
  rfl
theorem getF_with (s : ByteArray) (x : RF) (hx : x.1.1 = s) (t : ByteArray) : ∀ l : List RF, getF (withF s x l) t = if t = s then some x else getF l t := fun l => by
  rw [withF_eq]
  induction l with
  | nil =>
    rw [withR, getF_cons, hx]
    by_cases ht : t = s
    · simp [ht]
    · have : ¬ s = t := fun e => ht e.symm
      simp [ht, this]
  | cons p r ih =>
    by_cases hl : ltN p.1.1 s = true
    · have hp : p.1.1 ≠ s := by
        intro e
        rw [e, ltN, bytesLess_irr] at hl
        exact absurd hl (by decide)
      rw [withR, if_pos hl, getF_cons, ih, getF_cons]
      by_cases ht : t = s
      · subst ht; simp [hp]
      · simp [ht]
    · rw [withR, if_neg hl, getF_cons, hx, getF_filter]
      by_cases ht : t = s
      · simp [ht]
      · have : ¬ s = t := fun e => ht e.symm
        simp [ht, this]

/-- In the order of names. -/
def SortedF (l : List RF) : Prop := l.Pairwise fun a b => ltN a.1.1 b.1.1 = true
theorem SortedF.filter {l : List RF} (h : SortedF l) (s : ByteArray) : SortedF (l.filter (neN s)) := List.Pairwise.filter _ h

theorem bl_cons (a b : UInt8) (x y : List UInt8) : Op.bytesLess (a :: x) (b :: y) = true ↔ a.toNat < b.toNat ∨ (a = b ∧ Op.bytesLess x y = true) := by
  simp [Op.bytesLess, UInt8.lt_iff_toNat_lt]
theorem bl_trans : ∀ x y z : List UInt8, Op.bytesLess x y = true → Op.bytesLess y z = true → Op.bytesLess x z = true
  | _, [], _, h, _ => by simp [Op.bytesLess] at h
  | _, _ :: _, [], _, h => by simp [Op.bytesLess] at h
  | [], _ :: _, _ :: _, _, _ => by simp [Op.bytesLess]
  | a :: x, b :: y, c :: z, h1, h2 => by
    rw [bl_cons] at h1 h2 ⊢
    rcases h1 with h1 | ⟨rfl, h1⟩
    · rcases h2 with h2 | ⟨rfl, h2⟩
      · left; omega
      · left; exact h1
    · rcases h2 with h2 | ⟨rfl, h2⟩
      · left; exact h2
      · right; exact ⟨rfl, bl_trans x y z h1 h2⟩
theorem bl_total : ∀ x y : List UInt8, Op.bytesLess x y = false → x ≠ y → Op.bytesLess y x = true
  | [], [], _, h => absurd rfl h
  | _ :: _, [], _, _ => by simp [Op.bytesLess]
  | [], _ :: _, h, _ => by simp [Op.bytesLess] at h
  | a :: x, b :: y, h, hne => by
    have h' : ¬ (a.toNat < b.toNat ∨ (a = b ∧ Op.bytesLess x y = true)) := by
      rw [← bl_cons, h]; decide
    rw [bl_cons]
    by_cases hab : a = b
    · subst hab
      right
      refine ⟨rfl, bl_total x y ?_ (fun e => hne (by rw [e]))⟩
      cases hb : Op.bytesLess x y with
      | false => rfl
      | true => exact absurd (.inr ⟨rfl, hb⟩) h'
    · left
      have : a.toNat ≠ b.toNat := fun e => hab (UInt8.toNat_inj.1 e)
      omega
theorem ltN_trans {a b c : ByteArray} (h1 : ltN a b = true) (h2 : ltN b c = true) : ltN a c = true := bl_trans _ _ _ h1 h2
theorem ltN_total {a b : ByteArray} (h : ltN a b = false) (hne : a ≠ b) : ltN b a = true := bl_total _ _ h fun e => hne (by
  rw [Lib.toList_data, Lib.toList_data] at e
  exact ByteArray.ext (Array.toList_inj.1 e))
theorem ltN_ne {a b : ByteArray} (h : ltN a b = true) : a ≠ b := by
  rintro rfl
  rw [ltN, bytesLess_irr] at h
  exact absurd h (by decide)

theorem withR_mem (s : ByteArray) (x q : RF) : ∀ l : List RF, q ∈ withR s x l → q = x ∨ (q ∈ l ∧ q.1.1 ≠ s)
  | [], h => by simp [withR] at h; exact .inl h
  | p :: r, h => by
    by_cases hl : ltN p.1.1 s = true
    · rw [withR, if_pos hl] at h
      rcases List.mem_cons.1 h with rfl | h
      · exact .inr ⟨by simp, ltN_ne hl⟩
      · rcases withR_mem s x q r h with h | ⟨h1, h2⟩
        · exact .inl h
        · exact .inr ⟨List.mem_cons_of_mem _ h1, h2⟩
    · rw [withR, if_neg hl] at h
      rcases List.mem_cons.1 h with rfl | h
      · exact .inl rfl
      · obtain ⟨h1, h2⟩ := List.mem_filter.1 h
        exact .inr ⟨h1, by simpa [neN] using h2⟩
theorem SortedF.withF {l : List RF} (h : SortedF l) (s : ByteArray) (x : RF) (hx : x.1.1 = s) : SortedF (Disk.withF s x l) := by
  rw [withF_eq]
  induction l with
  | nil => simp [withR, SortedF]
  | cons p r ih =>
    have hc := List.pairwise_cons.1 h
    by_cases hl : ltN p.1.1 s = true
    · rw [withR, if_pos hl]
      refine List.pairwise_cons.2 ⟨fun q hq => ?_, ih hc.2⟩
      rcases withR_mem s x q r hq with rfl | ⟨h1, _⟩
      · rw [hx]; exact hl
      · exact hc.1 q h1
    · rw [withR, if_neg hl]
      refine List.pairwise_cons.2 ⟨fun q hq => ?_, h.filter s⟩
      obtain ⟨h1, h2⟩ := List.mem_filter.1 hq
      have hqs : q.1.1 ≠ s := by simpa [neN] using h2
      have hl' : ltN p.1.1 s = false := by simpa using hl
      rw [hx]
      rcases List.mem_cons.1 h1 with rfl | h1
      · exact ltN_total hl' hqs
      · by_cases hp : p.1.1 = s
        · rw [← hp]; exact hc.1 q h1
        · exact ltN_trans (ltN_total hl' hp) (hc.1 q h1)

/-- The bytes of all files, and of one. -/
def totF (ps : List RF) : Nat := (ps.map fun p => p.1.2.length).sum
def szF (l : List RF) (s : ByteArray) : Nat := ((getF l s).map fun p => p.1.2.length).getD 0
theorem totF_cons (p : RF) (l : List RF) : totF (p :: l) = p.1.2.length + totF l := by simp [totF]
theorem szF_cons (p : RF) (l : List RF) (s : ByteArray) : szF (p :: l) s = if p.1.1 = s then p.1.2.length else szF l s := by
  rw [szF, getF_cons]
  by_cases h : p.1.1 = s <;> simp [h, szF]
theorem szF_none {l : List RF} {s : ByteArray} (h : ∀ q ∈ l, q.1.1 ≠ s) : szF l s = 0 ∧ l.filter (neN s) = l := by
  constructor
  · have : getF l s = none := by
      rw [getF_find, List.find?_eq_none]
      intro q hq
      simpa using h q hq
    rw [szF, this]; rfl
  · exact List.filter_eq_self.2 fun q hq => by simpa [neN] using h q hq
theorem totF_filter (s : ByteArray) : ∀ l : List RF, SortedF l → totF (l.filter (neN s)) + szF l s = totF l
  | [], _ => by simp [totF, szF, getF, findP]
  | p :: r, h => by
    have hc := List.pairwise_cons.1 h
    rw [szF_cons, totF_cons]
    by_cases hp : p.1.1 = s
    · have h1 : neN s p = false := by simp [neN, hp]
      obtain ⟨_, h3⟩ := szF_none (l := r) (s := s) fun q hq => by
        have := ltN_ne (hc.1 q hq)
        rw [hp] at this
        exact fun e => this e.symm
      rw [List.filter_cons, h1, if_pos hp]
      simp only [Bool.false_eq_true, if_false]
      rw [h3]; omega
    · have h1 : neN s p = true := by simp [neN, hp]
      have ih := totF_filter s r hc.2
      rw [List.filter_cons, h1, if_neg hp]
      simp only [if_true]
      rw [totF_cons]; omega
theorem totF_with (s : ByteArray) (x : RF) : ∀ l : List RF, SortedF l → totF (withF s x l) + szF l s = totF l + x.1.2.length := fun l => by
  rw [withF_eq]
  induction l with
  | nil => intro _; simp [withR, totF, szF, getF, findP]
  | cons p r ih =>
    intro h
    have hc := List.pairwise_cons.1 h
    by_cases hl : ltN p.1.1 s = true
    · have hp := ltN_ne hl
      rw [withR, if_pos hl, totF_cons, szF_cons, if_neg hp, totF_cons]
      have := ih hc.2
      omega
    · rw [withR, if_neg hl, totF_cons]
      have := totF_filter s (p :: r) h
      omega

end Go.Proofs.Ytmegiilkcidanaa.Disk

/-
  Contract of the disk's Write: a write that is carried out.
-/
namespace Go.Proofs.Ytmegiilkcidanaa.Disk
open Go Go.RowKit Go.Lib Go.Proofs.Ytmegiilkcidanaa.Law

/-- file's write, whatever is shared. -/
theorem fwrite_calls (fb base : Nat) (nt st sh : Bool) (na sa ca : Option Addr) (nc sc cl cc : Nat) (nbs sbs : List Nat) (c : Chg) (w : World)
    (hf : FB w fb nt (.slice na nbs.length nc) st (.slice sa sbs.length sc) sh (.slice ca cl cc)) (hn : Buf w base 5 (.slice na nbs.length nc) nbs) (hs : Buf w base 5 (.slice sa sbs.length sc) sbs) (hbase : base ≤ w.heap.size)
    (hshare : Share sh (.slice na nbs.length nc) (.slice sa sbs.length sc) nbs.length sbs.length) (hk : c.pos ≤ nbs.length) (hroom : nbs.length + c.s.size ≤ 140737488351232) :
    Calls Try.prog 47 #[.pointer (some ⟨fb, 0, none⟩), chgV c] w (Wrote w fb base st (.slice na nbs.length nc) (.slice sa sbs.length sc) (.slice ca cl cc) nbs sbs c) := by
  by_cases h : sh = true ∧ c.pos < nbs.length
  · obtain ⟨rfl, h2⟩ := h
    exact write_copy fb base nt st na sa ca nc sc cl cc nbs sbs c w hf hn hs hbase h2 hroom
  · exact write_plain fb base nt st sh na sa ca nc sc cl cc nbs sbs c w hf hn hs hbase hshare hk hroom (fun e => by
      have : ¬ c.pos < nbs.length := fun h2 => h ⟨e, h2⟩
      omega)

/-- A change in a box. -/
def BoxC (W : World) (b : Nat) (c : Chg) : Prop := W.heap[b]? = some (.cells #[.int .i64 (c.n : Nat), .int .i64 (c.kind : Nat), .int .i64 (c.pos : Nat), .string c.s] 86 (0, 0))
theorem BoxC.cells {W : World} {b : Nat} {c : Chg} (h : BoxC W b c) : W.cell? ⟨b, 0, none⟩ = some (.int .i64 (c.n : Nat)) ∧ W.cell? ⟨b, 1, none⟩ = some (.int .i64 (c.kind : Nat)) ∧ W.cell? ⟨b, 2, none⟩ = some (.int .i64 (c.pos : Nat)) ∧ W.cell? ⟨b, 3, none⟩ = some (.string c.s) := by
  unfold BoxC at h
  refine ⟨?_, ?_, ?_, ?_⟩ <;> simp [World.cell?, h]

set_option maxHeartbeats 1000000 in
/-- The file's write, then the note of it. -/
theorem write_chain {w w0 : World} {O : Owner} {db mb fb kN b : Nat} {D : DS} {F F' : ByteArray → Option Nat} {s d : ByteArray} {v : KV} (hmade : D.made ≤ 4294967296)
    (hc : Core w O db mb D F) (hf : ∀ x ∈ D.names, x ≠ s → ∃ fb, F x = some fb ∧ FileAt w O (db + 1) x fb (D.now x) (D.safe x) (mine x D.chs)) (hs : Short s)
    (h0 : ∀ k, k < w.heap.size → k ≠ mb → w0.heap[k]? = w.heap[k]?) (h0s : w.heap.size ≤ w0.heap.size) (h0o : w0.os = w.os ∧ w0.tape = w.tape ∧ w0.output = w.output) (hm0 : ∃ n, n ≤ D.made + 1 ∧ MapP Try.prog 9 w0 mb n F')
    (hFs : F' s = some fb) (hFo : ∀ x, x ≠ s → F' x = F x) (hv : FileV w0 (own O w.heap.size w0.heap.size s) (db + 1) s fb (D.now s) (D.safe s) (mine s D.chs) v)
    (hk : kN ≤ szO (D.now s)) (hroom : szO (D.now s) + d.size ≤ 140737488351232) (hch : (mine s D.chs).length ≤ D.made) (hbox : BoxC w0 b ⟨0, 0, kN, d⟩) (hb : w.heap.size ≤ b) :
    Calls Try.prog 47 #[.pointer (some ⟨fb, 0, none⟩), .agg #[.int .i64 0, .int .i64 0, .int .i64 (kN : Nat), .string d]] w0 fun e W3 => e = .returned (.tuple #[]) ∧
      (W3.cell? ⟨b, 0, none⟩ = some (.int .i64 0) ∧ W3.cell? ⟨b, 1, none⟩ = some (.int .i64 0) ∧ W3.cell? ⟨b, 2, none⟩ = some (.int .i64 (kN : Nat)) ∧ W3.cell? ⟨b, 3, none⟩ = some (.string d)) ∧
      Hid (Calls Try.prog 48 #[.pointer (some ⟨db, 0, none⟩), .pointer (some ⟨fb, 0, none⟩), .agg #[.int .i64 0, .int .i64 0, .int .i64 (kN : Nat), .string d]] W3 fun e W4 => e = .returned (.tuple #[]) ∧
        (W4.cell? ⟨db, 2, none⟩ = some (.int .i64 (D.used : Int)) ∧ W4.frozen? ⟨db, 2, none⟩ = false) ∧
        Hid (∃ O', DiskAt (W4.setCell ⟨db, 2, none⟩ (.int .i64 ((D.used + (kN + d.size - szO (D.now s)) : Nat) : Int))) O' db (D.wrote s kN d) ∧ Past w O (W4.setCell ⟨db, 2, none⟩ (.int .i64 ((D.used + (kN + d.size - szO (D.now s)) : Nat) : Int))) O')) := by
  have hdb := hc.disk.lt
  have hmb : mb < w.heap.size := hc.lt mb (by rw [hc.omb]; simp)
  obtain ⟨v1, v2, v3, v4, v5, v6, v7⟩ := id hv
  have hO0 : ∀ k, k < w.heap.size → own O w.heap.size w0.heap.size s k = O k := fun k hk => own_old hk
  have hdbf : db ≠ fb := fun e => by
    have := v6; rw [← e, hO0 db hdb, hc.odb] at this; cases this
  have hdbm : db ≠ mb := fun e => by
    obtain ⟨n, _, D0, hD0, _⟩ := hc.map
    have h1 := hc.disk
    unfold DB at h1
    obtain ⟨es, clock, h2, _⟩ := hD0
    rw [e, h2] at h1
    cases h1
  have hdbn : (v.now (szO (D.now s))).ownBlock ≠ some db := fun e => by
    have := v7 db (.inl e); rw [hO0 db hdb, hc.odb] at this; cases this
  have hd0 : DB w0 db mb (D.room : Int) (D.used : Int) (D.made : Int) D.fails := (h0 db hdb hdbm).trans hc.disk
  have hbf : b ≠ fb := fun e => by
    subst e
    unfold BoxC at hbox; unfold FB at v1
    rw [hbox] at v1
    have := Option.some.inj v1
    injection this with _ h2 _
    exact absurd h2 (by decide)
  have hbn : (v.now (szO (D.now s))).ownBlock ≠ some b := fun e => by
    rcases v2.2 with ⟨h1, _⟩ | ⟨g, cap, cur, h1, _, h2, _⟩
    · rw [h1] at e; cases e
    · rw [h1] at e
      have : g = b := by simpa [Value.ownBlock] using e
      subst this
      unfold BoxC at hbox
      rw [hbox] at h2
      have := Option.some.inj h2
      injection this with _ h2 _
      exact absurd h2 (by decide)
  have hcf : ∀ g, (v.chs (mine s D.chs).length).ownBlock = some g → g ≠ fb := fun g hg e => by
    subst e
    rcases v5.2 with ⟨h1, _⟩ | ⟨g1, cap, cur, h1, _, h2, _⟩
    · rw [h1] at hg; cases hg
    · rw [h1] at hg
      have : g1 = g := by simpa [Value.ownBlock] using hg
      subst this
      unfold FB at v1
      rw [v1] at h2
      have := Option.some.inj h2
      injection this with _ h2 _
      exact absurd h2 (by decide)
  have hcn : ∀ g, (v.chs (mine s D.chs).length).ownBlock = some g → (v.now (szO (D.now s))).ownBlock ≠ some g := fun g hg e => by
    rcases v2.2 with ⟨h1, _⟩ | ⟨g1, cap, cur, h1, _, h2, _⟩
    · rw [h1] at e; cases e
    · rcases v5.2 with ⟨h3, _⟩ | ⟨g2, cap2, cur2, h3, _, h4, _⟩
      · rw [h3] at hg; cases hg
      · rw [h1] at e; rw [h3] at hg
        have e1 : g1 = g := by simpa [Value.ownBlock] using e
        have e2 : g2 = g := by simpa [Value.ownBlock] using hg
        subst e1 e2
        rw [h2] at h4
        have := Option.some.inj h4
        injection this with _ h5 _
        exact absurd h5 (by decide)
  have cW := fwrite_calls fb (db + 1) (D.now s).isSome (D.safe s).isSome v.sh v.na v.sa v.ca v.nc v.sc (mine s D.chs).length v.cc ((D.now s).getD []) ((D.safe s).getD []) ⟨0, 0, kN, d⟩ w0
    (by rw [szO_getD, szO_getD]; exact v1) (by rw [szO_getD]; exact v2) (by rw [szO_getD]; exact v3) (by omega) (by rw [szO_getD, szO_getD]; exact v4) (by rw [szO_getD]; exact hk) (by rw [szO_getD]; exact hroom)
  rw [szO_getD, szO_getD] at cW
  refine cW.mono ?_
  intro e W3 hW
  obtain ⟨nv', sh', rfl, x1, x2, x3, x4, x5, x6, x7, x8, x9, x10⟩ := id hW
  have hb3 : BoxC W3 b ⟨0, 0, kN, d⟩ := (x10 b (Array.getElem?_eq_some_iff.1 (show w0.heap[b]? = _ from hbox)).1 hbf hbn).trans hbox
  refine ⟨rfl, hb3.cells, Lib.hid ?_⟩
  have hd3 : DB W3 db mb (D.room : Int) (D.used : Int) (D.made : Int) D.fails := (x10 db (by omega) hdbf hdbn).trans hd0
  have hC3 : OwnC W3 (db + 1) (v.chs (mine s D.chs).length) (mine s D.chs) := v5.keep fun g hg => x10 g (v5.own g hg).2 (hcf g hg) (hcn g hg)
  obtain ⟨na', nc', rfl, _⟩ := x2.form
  have cN := note_calls db mb fb (D.room : Int) (D.used : Int) D.made (by omega) D.fails true (D.safe s).isSome sh' na' v.sa v.ca _ nc' (szO (D.safe s)) v.sc (mine s D.chs).length v.cc (mine s D.chs) ⟨0, 0, kN, d⟩ (db + 1) W3 hd3 x1 hdbf hC3 (by omega) (Nat.lt_succ_self _) hcf (by omega)
  refine cN.mono ?_
  rintro e W4 ⟨rfl, hN⟩
  have hd4 : DB W4 db mb (D.room : Int) (D.used : Int) ((D.made + 1 : Nat) : Int) D.fails := by
    obtain ⟨_, y1, _⟩ := hN
    exact y1
  refine ⟨rfl, ⟨hd4.cells.1.2.2.1, hd4.cells.2 2⟩, Lib.hid ?_⟩
  exact ⟨_, write_done hc hf hs h0 h0s h0o hm0 hFs hFo hv hW _ sh' x1 hN⟩

end Go.Proofs.Ytmegiilkcidanaa.Disk

/-
  Contract of the disk's Write: the whole of it.
-/
namespace Go.Proofs.Ytmegiilkcidanaa.Disk
open Go Go.RowKit Go.Lib Go.Proofs.Ytmegiilkcidanaa.Law

/-- What a write leaves. -/
def WroteD (w : World) (O : Owner) (db : Nat) (D : DS) (s : ByteArray) (k : Int) (d : ByteArray) (e : Ending) (W : World) : Prop :=
  e = .returned (.int .i64 (D.writeN s k d.size : Nat)) ∧ ∃ O', DiskAt W O' db (D.write s k d) ∧ Past w O W O'

set_option maxRecDepth 100000 in
set_option maxHeartbeats 4000000 in
theorem write_old (w : World) (O : Owner) (db : Nat) (D : DS) (h : DiskAt w O db D) (hw : WF D) (hmade : D.made ≤ 4294967296) (s : ByteArray) (k : Nat) (dv : Value) (d : ByteArray) (hdl : d.size ≤ 140737488351232) (hI : Bytes w.heap.size w dv (bytesS d)) (h0 : D.writeN s (k : Nat) d.size = 0) (hin : s ∈ D.names) :
    Calls Try.prog 21 #[.pointer (some ⟨db, 0, none⟩), .string s, .int .i64 (k : Nat), dv] w fun e W => e = .returned (.int .i64 0) ∧ ∃ O', DiskAt W O' db (D.wrote s k d) ∧ Past w O W O' := by
  obtain ⟨hr, hk, hfit⟩ := writeN_zero h0
  rw [Int.toNat_natCast] at hk hfit
  obtain ⟨hfail, hright, _⟩ := refN_zero hr
  have hs := short_right hright
  obtain ⟨mb, F, hc, hf⟩ := id h
  obtain ⟨fb, hF, hfile⟩ := hf s hin
  obtain ⟨v, hv⟩ := hfile.vals
  obtain ⟨n, hn, hm⟩ := hc.map
  have hdb := hc.disk.lt
  have hmbl : mb < w.heap.size := hc.lt mb (by rw [hc.omb]; simp)
  have CR := Lib.hid (refusal_calls db mb _ _ _ _ s (by have := short_right hright; unfold Short at this; simp only [maxLen] at this; omega) (k : Int) w hc.disk)
  rw [hr] at CR
  have hnow := hw.nowLe s
  have hus := hw.usedLe
  have hrm := hw.room
  have hu2 : D.used ≤ 4611686018427387904 := Nat.le_trans hus (Nat.le_trans (Nat.mul_le_mul_right _ hmade) (by decide))
  have CK : Hid (∀ W, Below w.heap.size w W → ∃ (na sa ca : Option Addr) (nc sl sc cl cc : Nat) (nt st sh : Bool), Calls Try.prog 40 #[.pointer (some ⟨db, 0, none⟩), .string s] W (KnownOut W (.agg #[.bool nt, .slice na (szO (D.now s)) nc, .bool st, .slice sa sl sc, .bool sh, .slice ca cl cc]))) := Lib.hid fun W hB => by
    obtain ⟨v, ns, sl, cl, nt, st, ⟨_, rfl, _, _⟩, _, _, hc⟩ := known_at (h.below hB) hw s hs
    exact ⟨v.na, v.sa, v.ca, v.nc, sl, v.sc, cl, v.cc, nt, st, v.sh, hc⟩
  obtain ⟨dA, dcap, rfl⟩ := hI.form
  have hbl := bytesS_length d
  rw [hbl] at hI ⊢
  -- in a world that left all
  have HX : Hid (∀ W, Below w.heap.size w W → (W.cell? ⟨db, 0, none⟩ = some (.map (some mb)) ∧ W.cell? ⟨db, 1, none⟩ = some (.int .i64 (D.room : Int)) ∧ W.cell? ⟨db, 2, none⟩ = some (.int .i64 (D.used : Int))) ∧
      (Instr.lookup 62 (.map (some mb)) (.string s) false).run Try.prog W = .ok (.pointer (some ⟨fb, 0, none⟩)) W ∧
      (convert 34 9 (.slice dA d.size dcap)).run Try.prog W = .ok (.string d) W) := Lib.hid fun W hB => by
    have hd := hc.disk.below hB
    refine ⟨⟨hd.cells.1.1, hd.cells.1.2.1, hd.cells.1.2.2.1⟩, ?_, ?_⟩
    · have := (hm.at (W' := W) (hB.block _ hmbl)).look Try.underlying9 Try.underlying62 (zero_ptr _) hs
      rwa [hF] at this
    · have := run_string_bytes (P := Try.prog) W (src := 34) (dst := 9) Try.underlying34 Try.underlying5 Try.underlying9 (hI.below hB)
      rw [this]
      have e : str (bytesS d) = d := by
        unfold str bytesS
        rw [List.map_map]
        have : (UInt8.ofNat ∘ UInt8.toNat) = id := by funext x; simp
        rw [this, List.map_id]
      rw [e]
  have HC : Hid (∀ W0 b, Below w.heap.size w W0 → w.heap.size ≤ b → BoxC W0 b ⟨0, 0, k, d⟩ → Calls Try.prog 47 #[.pointer (some ⟨fb, 0, none⟩), .agg #[.int .i64 0, .int .i64 0, .int .i64 (k : Nat), .string d]] W0 fun e W3 => e = .returned (.tuple #[]) ∧
      (W3.cell? ⟨b, 0, none⟩ = some (.int .i64 0) ∧ W3.cell? ⟨b, 1, none⟩ = some (.int .i64 0) ∧ W3.cell? ⟨b, 2, none⟩ = some (.int .i64 (k : Nat)) ∧ W3.cell? ⟨b, 3, none⟩ = some (.string d)) ∧
      Hid (Calls Try.prog 48 #[.pointer (some ⟨db, 0, none⟩), .pointer (some ⟨fb, 0, none⟩), .agg #[.int .i64 0, .int .i64 0, .int .i64 (k : Nat), .string d]] W3 fun e W4 => e = .returned (.tuple #[]) ∧
        (W4.cell? ⟨db, 2, none⟩ = some (.int .i64 (D.used : Int)) ∧ W4.frozen? ⟨db, 2, none⟩ = false) ∧
        Hid (∃ O', DiskAt (W4.setCell ⟨db, 2, none⟩ (.int .i64 ((D.used + (k + d.size - szO (D.now s)) : Nat) : Int))) O' db (D.wrote s k d) ∧ Past w O (W4.setCell ⟨db, 2, none⟩ (.int .i64 ((D.used + (k + d.size - szO (D.now s)) : Nat) : Int))) O'))) := Lib.hid fun W0 b hB hb hbox => by
    have hv0 : FileV W0 (own O w.heap.size W0.heap.size s) (db + 1) s fb (D.now s) (D.safe s) (mine s D.chs) v := by
      obtain ⟨v1, v2, v3, v4, v5, v6, v7⟩ := hv
      refine ⟨v1.below hB, v2.below hB, v3.below hB, v4, v5.keep fun g hg => hB.block g (v5.own g hg).2, ?_, fun g hg => ?_⟩
      · rw [own_old v1.lt]; exact v6
      · have hgl : g < w.heap.size := by
          rcases hg with hg | hg | hg
          · exact (v2.own g hg).2
          · exact (v3.own g hg).2
          · exact (v5.own g hg).2
        rw [own_old hgl]; exact v7 g hg
    exact write_chain (F' := F) hmade hc (fun x hx _ => hf x hx) hs (fun k hk _ => hB.block k hk) hB.size ⟨hB.os, hB.tape, hB.output⟩ ⟨n, by omega, hm.at (hB.block _ hmbl)⟩ hF (fun _ _ => rfl) hv0 hk (by omega) (hw.mineLe s) hbox hb
  obtain ⟨ns, hns⟩ : ∃ ns, szO (D.now s) = ns := ⟨_, rfl⟩
  rw [hns] at CK HC hk hnow hfit
  obtain ⟨dl, hdl2⟩ : ∃ dl, d.size = dl := ⟨_, rfl⟩
  rw [hdl2] at HX HC hfit hdl ⊢
  obtain ⟨u, hu1⟩ : ∃ u, D.used = u := ⟨_, rfl⟩
  obtain ⟨r, hr1⟩ : ∃ r, D.room = r := ⟨_, rfl⟩
  rw [hu1] at HX HC hfit hu2
  rw [hr1] at HX hfit hrm
  obtain ⟨more, hmore⟩ : ∃ more, k + dl - ns = more := ⟨_, rfl⟩
  rw [hmore] at HC
  have HBN : Hid (∀ n m W, Below n w W → Below n w (W.drewN m)) := Lib.hid fun n m W hB => below_drewN hB
  clear hI hbl hmbl hdb hm hn hv hfile hF hf hc h hw hs hright hfail hr h0 hin hus hmade hdl2 hu1 hr1 hns
  by_cases hpos : 0 < more
  · have hroom : u + more ≤ r := by have := hfit (by omega); omega
    have e1 : ((k : Int) + (dl : Int) - (ns : Int)) = (more : Int) := by omega
    have g0 : decide (0 < more) = true := by simp; omega
    have g1 : IntKind.i64.wrap ((u : Int) + (more : Int)) = ((u + more : Nat) : Int) := by rw [IntKind.wrap_i64]; omega
    have g2 : decide (r < u + more) = false := by simp; omega
    clear hfit hmore
    go_enter Try.func21, Try.ntmps21
    go_wp2_with fail
    refine CR.out.mono ?_
    rintro e W ⟨rfl, hB⟩
    go_wp2_with fail
    obtain ⟨na, sa, ca, nc, sl, sc, cl, cc, nt, st, sh, cK⟩ := CK.out W hB
    have CKK := Lib.hid cK
    clear cK
    refine CKK.out.mono ?_
    rintro e W2 ⟨rfl, hB2⟩
    have q0 := field_now nt st sh na sa ca ns nc sl sc cl cc
    have q1 := field_bytes nt na ns nc
    have hBB := hB.trans (hB2.mono hB.size)
    have HBB := Lib.hid hBB
    obtain ⟨⟨k0, k1, k2⟩, _, _⟩ := HX.out W2 hBB
    clear hB hB2 hBB
    go_wp2_with fail
    go_quiet (fail)
    have HB5 := Lib.hid (below_drewN (m := nq) HBB.out)
    clear HBB
    generalize W2.drewN nq = W5 at HB5 ⊢
    obtain ⟨⟨p0, _, _⟩, _, _⟩ := HX.out W5 HB5.out
    go_wp2_with (first | (refine wpList_lookup_ran (o := ⟨some 57, _, _, _, _, _⟩) rfl _ _ _ _ rfl rfl rfl (HX.out _ HB5.out).2.1 ?_) | (refine wpList_exec_ran (o := ⟨some 71, _, _, _, _, _⟩) rfl (run_conv (HX.out _ HB5.out).2.2) ?_))
    have hB6 := HB5.out.alloc HB5.out.size (.cells #[.int .i64 0, .int .i64 0, .int .i64 (k : Nat), .string d] 86)
    refine (HC.out _ W5.heap.size hB6 HB5.out.size (heap_alloc_new W5 _)).mono ?_
    rintro e W6 ⟨rfl, ⟨r0, r1, r2, r3⟩, HN⟩
    go_wp2_with fail
    refine HN.out.mono ?_
    rintro e W7 ⟨rfl, ⟨s0, s1⟩, HF⟩
    go_wp2_with fail
    go_ret
    exact ⟨rfl, HF.out⟩
  · obtain rfl : more = 0 := by omega
    have hle : (k : Int) + (dl : Int) ≤ (ns : Int) := by omega
    have g0 : decide ((0 : Int) < max ((k : Int) + (dl : Int) - (ns : Int)) 0) = false := by simp; omega
    have g1 : max ((k : Int) + (dl : Int) - (ns : Int)) 0 = 0 := by omega
    clear hfit hmore hpos
    go_enter Try.func21, Try.ntmps21
    go_wp2_with fail
    refine CR.out.mono ?_
    rintro e W ⟨rfl, hB⟩
    go_wp2_with fail
    obtain ⟨na, sa, ca, nc, sl, sc, cl, cc, nt, st, sh, cK⟩ := CK.out W hB
    have CKK := Lib.hid cK
    clear cK
    refine CKK.out.mono ?_
    rintro e W2 ⟨rfl, hB2⟩
    have q0 := field_now nt st sh na sa ca ns nc sl sc cl cc
    have q1 := field_bytes nt na ns nc
    have hBB := hB.trans (hB2.mono hB.size)
    have HBB := Lib.hid hBB
    obtain ⟨⟨k0, k1, k2⟩, _, _⟩ := HX.out W2 hBB
    clear hB hB2 hBB
    go_wp2_with fail
    go_quiet (fail)
    have HB5 := Lib.hid (below_drewN (m := nq) HBB.out)
    clear HBB
    generalize W2.drewN nq = W5 at HB5 ⊢
    obtain ⟨⟨p0, _, _⟩, _, _⟩ := HX.out W5 HB5.out
    go_wp2_with (first | (refine wpList_lookup_ran (o := ⟨some 57, _, _, _, _, _⟩) rfl _ _ _ _ rfl rfl rfl (HX.out _ HB5.out).2.1 ?_) | (refine wpList_exec_ran (o := ⟨some 71, _, _, _, _, _⟩) rfl (run_conv (HX.out _ HB5.out).2.2) ?_))
    have hB6 := HB5.out.alloc HB5.out.size (.cells #[.int .i64 0, .int .i64 0, .int .i64 (k : Nat), .string d] 86)
    refine (HC.out _ W5.heap.size hB6 HB5.out.size (heap_alloc_new W5 _)).mono ?_
    rintro e W6 ⟨rfl, ⟨r0, r1, r2, r3⟩, HN⟩
    go_wp2_with fail
    refine HN.out.mono ?_
    rintro e W7 ⟨rfl, ⟨s0, s1⟩, HF⟩
    go_wp2_with fail
    go_ret
    exact ⟨rfl, HF.out⟩


end Go.Proofs.Ytmegiilkcidanaa.Disk

/-
  Contract of the disk's Write: a write of a file that isn't there; the whole.
-/
namespace Go.Proofs.Ytmegiilkcidanaa.Disk
open Go Go.RowKit Go.Lib Go.Sort Go.Proofs.Ytmegiilkcidanaa.Law

set_option maxRecDepth 100000 in
set_option maxHeartbeats 4000000 in
theorem write_new (w : World) (O : Owner) (db : Nat) (D : DS) (h : DiskAt w O db D) (hw : WF D) (hmade : D.made ≤ 4294967296) (s : ByteArray) (k : Nat) (dv : Value) (d : ByteArray) (hdl : d.size ≤ 140737488351232) (hI : Bytes w.heap.size w dv (bytesS d)) (h0 : D.writeN s (k : Nat) d.size = 0) (hin : s ∉ D.names) :
    Calls Try.prog 21 #[.pointer (some ⟨db, 0, none⟩), .string s, .int .i64 (k : Nat), dv] w fun e W => e = .returned (.int .i64 0) ∧ ∃ O', DiskAt W O' db (D.wrote s k d) ∧ Past w O W O' := by
  obtain ⟨hr, hk, hfit⟩ := writeN_zero h0
  rw [Int.toNat_natCast] at hk hfit
  obtain ⟨hfail, hright, _⟩ := refN_zero hr
  have hs := short_right hright
  obtain ⟨hnow, hsafe, hmine⟩ := hw.gone hin
  have hns : szO (D.now s) = 0 := by rw [hnow]; rfl
  rw [hns] at hk hfit
  obtain rfl : k = 0 := by omega
  obtain ⟨mb, F, hc, hf⟩ := id h
  obtain ⟨n, hn, hm⟩ := hc.map
  have hFs : F s = none := by
    cases hq : F s with
    | none => rfl
    | some fb => exact absurd ((hc.dom s hs).1 (by rw [hq]; rfl)) hin
  have hdb := hc.disk.lt
  have hmbl : mb < w.heap.size := hc.lt mb (by rw [hc.omb]; simp)
  have hs63 : s.size ≤ 281474976710656 := by
    have h1 := hright
    unfold rightB at h1
    simp only [Bool.and_eq_true, decide_eq_true_eq] at h1
    have := h1.1.2
    omega
  have CR := Lib.hid (refusal_calls db mb _ _ _ _ s (by omega) ((0 : Nat) : Int) w hc.disk)
  rw [hr] at CR
  have hus := hw.usedLe
  have hrm := hw.room
  have hu2 : D.used ≤ 4611686018427387904 := Nat.le_trans hus (Nat.le_trans (Nat.mul_le_mul_right _ hmade) (by decide))
  have CK : Hid (∀ W, Below w.heap.size w W → ∃ (na sa ca : Option Addr) (nc sl sc cl cc : Nat) (nt st sh : Bool), Calls Try.prog 40 #[.pointer (some ⟨db, 0, none⟩), .string s] W (KnownOut W (.agg #[.bool nt, .slice na 0 nc, .bool st, .slice sa sl sc, .bool sh, .slice ca cl cc]))) := Lib.hid fun W hB => by
    obtain ⟨v, ns, sl, cl, nt, st, ⟨_, h2, _, _⟩, _, _, hc⟩ := known_at (h.below hB) hw s hs
    rw [hns] at h2
    subst h2
    exact ⟨v.na, v.sa, v.ca, v.nc, sl, v.sc, cl, v.cc, nt, st, v.sh, hc⟩
  have CS : Hid (∀ W, Calls Try.prog 46 #[.string s] W fun e W' => e = .returned (.string s) ∧ Below W.heap.size W W') := Lib.hid fun W => cloneS_calls s W (by omega)
  obtain ⟨dA, dcap, rfl⟩ := hI.form
  have hbl := bytesS_length d
  rw [hbl] at hI ⊢
  have hconv : ∀ W, Bytes w.heap.size W (.slice dA d.size dcap) (bytesS d) → (convert 34 9 (.slice dA d.size dcap)).run Try.prog W = .ok (.string d) W := fun W hI => by
    have := run_string_bytes (P := Try.prog) W (src := 34) (dst := 9) Try.underlying34 Try.underlying5 Try.underlying9 hI
    rw [this]
    have e : str (bytesS d) = d := by
      unfold str bytesS
      rw [List.map_map]
      have : (UInt8.ofNat ∘ UInt8.toNat) = id := by funext x; simp
      rw [this, List.map_id]
    rw [e]
  have HX : Hid (∀ W, Below w.heap.size w W → (W.cell? ⟨db, 0, none⟩ = some (.map (some mb)) ∧ W.cell? ⟨db, 1, none⟩ = some (.int .i64 (D.room : Int)) ∧ W.cell? ⟨db, 2, none⟩ = some (.int .i64 (D.used : Int))) ∧
      (Instr.lookup 62 (.map (some mb)) (.string s) false).run Try.prog W = .ok (.pointer none) W ∧
      (convert 34 9 (.slice dA d.size dcap)).run Try.prog W = .ok (.string d) W ∧ w.heap.size ≤ W.heap.size) := Lib.hid fun W hB => by
    have hd := hc.disk.below hB
    refine ⟨⟨hd.cells.1.1, hd.cells.1.2.1, hd.cells.1.2.2.1⟩, ?_, hconv W (hI.below hB), hB.size⟩
    have := (hm.at (W' := W) (hB.block _ hmbl)).look Try.underlying9 Try.underlying62 (zero_ptr _) hs
    rwa [hFs] at this
  have HM : Hid (∀ W fb, Below w.heap.size w W → ∃ w', (Instr.mapUpdate 62 (.map (some mb)) (.string s) (.pointer (some ⟨fb, 0, none⟩))).run Try.prog W = .ok () w' ∧ MapP Try.prog 9 w' mb (n + 1) (fun x => if x = s then some fb else F x) ∧ W.grownBy w' (some mb)) := Lib.hid fun W fb hB =>
    (hm.at (W' := W) (hB.block _ hmbl)).store Try.underlying9 Try.underlying62 (by simp only [maxLen]; omega) hs fb
  have HX8 : Hid (∀ W6 wq W8, Below w.heap.size w W6 → Below W6.heap.size W6 wq → wq.grownBy W8 (some mb) → (convert 34 9 (.slice dA d.size dcap)).run Try.prog W8 = .ok (.string d) W8) := Lib.hid fun W6 wq W8 hB6 hBq hg => by
    have hBw := hB6.trans (hBq.mono hB6.size)
    refine hconv W8 ?_
    obtain ⟨A', cap', e, e1, e2, hb, hcells⟩ := hI
    refine ⟨A', cap', e, e1, e2, hb, fun hl => ?_⟩
    obtain ⟨b, off, h1, h2, h3⟩ := hcells hl
    refine ⟨b, off, h1, h2, fun j hj => ?_⟩
    have hne : b ≠ mb := fun e => by
      subst e
      obtain ⟨D0, ⟨es, clock, h4, _⟩, _⟩ := hm
      have h5 := h3 j hj
      unfold World.cell? at h5
      simp only [h4] at h5
      cases h5
    have hbq : b < wq.heap.size := Nat.lt_of_lt_of_le h2 hBw.size
    rw [← h3 j hj]
    unfold World.cell?
    rw [hg.block b hbq (fun e => hne (by simpa using e)), hBw.block b h2]
  have HC : Hid (∀ W5 W6 wq W8, Below w.heap.size w W5 → Below w.heap.size w W6 → Below W6.heap.size W6 wq → W6.heap.size = W5.heap.size + 1 → FB W6 W5.heap.size false (.slice none 0 0) false (.slice none 0 0) false (.slice none 0 0) → wq.grownBy W8 (some mb) → MapP Try.prog 9 W8 mb (n + 1) (fun x => if x = s then some W5.heap.size else F x) →
      Calls Try.prog 47 #[.pointer (some ⟨W5.heap.size, 0, none⟩), .agg #[.int .i64 0, .int .i64 0, .int .i64 0, .string d]] (W8.alloc (.cells #[.int .i64 0, .int .i64 0, .int .i64 0, .string d] 86)) fun e W3 => e = .returned (.tuple #[]) ∧
      (W3.cell? ⟨W8.heap.size, 0, none⟩ = some (.int .i64 0) ∧ W3.cell? ⟨W8.heap.size, 1, none⟩ = some (.int .i64 0) ∧ W3.cell? ⟨W8.heap.size, 2, none⟩ = some (.int .i64 0) ∧ W3.cell? ⟨W8.heap.size, 3, none⟩ = some (.string d)) ∧
      Hid (Calls Try.prog 48 #[.pointer (some ⟨db, 0, none⟩), .pointer (some ⟨W5.heap.size, 0, none⟩), .agg #[.int .i64 0, .int .i64 0, .int .i64 0, .string d]] W3 fun e W4 => e = .returned (.tuple #[]) ∧
        (W4.cell? ⟨db, 2, none⟩ = some (.int .i64 (D.used : Int)) ∧ W4.frozen? ⟨db, 2, none⟩ = false) ∧
        Hid (∃ O', DiskAt (W4.setCell ⟨db, 2, none⟩ (.int .i64 ((D.used + d.size : Nat) : Int))) O' db (D.wrote s 0 d) ∧ Past w O (W4.setCell ⟨db, 2, none⟩ (.int .i64 ((D.used + d.size : Nat) : Int))) O'))) := Lib.hid fun W5 W6 wq W8 hB5 hB6 hBq hsz6 hF6 hg hm8 => by
    have hBw := hB6.trans (hBq.mono hB6.size)
    have hs8 : wq.heap.size ≤ W8.heap.size := hg.size
    have hsq := hBq.size
    have hs5 := hB5.size
    have hblk : ∀ k, k < w.heap.size → k ≠ mb → (W8.alloc (.cells #[.int .i64 0, .int .i64 0, .int .i64 0, .string d] 86)).heap[k]? = w.heap[k]? := fun k hk hne => by
      rw [Below.heap_alloc _ _ _ (by omega), hg.block k (by omega) (fun e => hne (by simpa using e)), hBw.block k hk]
    have hfb8 : FB (W8.alloc (.cells #[.int .i64 0, .int .i64 0, .int .i64 0, .string d] 86)) W5.heap.size false (.slice none 0 0) false (.slice none 0 0) false (.slice none 0 0) := by
      refine Eq.trans ?_ hF6
      have hne5 : W5.heap.size ≠ mb := by omega
      rw [Below.heap_alloc _ _ _ (by omega), hg.block _ (by omega) (fun e => hne5 (by simpa using e)), hBq.block _ (by omega)]
    have hv0 : FileV (W8.alloc (.cells #[.int .i64 0, .int .i64 0, .int .i64 0, .string d] 86)) (own O w.heap.size (W8.alloc (.cells #[.int .i64 0, .int .i64 0, .int .i64 0, .string d] 86)).heap.size s) (db + 1) s W5.heap.size (D.now s) (D.safe s) (mine s D.chs) ⟨false, none, 0, none, 0, none, 0⟩ := by
      rw [hnow, hsafe, hmine]
      refine ⟨hfb8, Buf.nil _ _ _, Buf.nil _ _ _, (fun g hg => by cases hg), OwnC.nil _ _, own_new (by omega) (by rw [World.size_alloc]; omega), fun g hg => ?_⟩
      rcases hg with hg | hg | hg <;> cases hg
    have := write_chain (kN := 0) (b := W8.heap.size) (d := d) (v := ⟨false, none, 0, none, 0, none, 0⟩) (F' := fun x => if x = s then some W5.heap.size else F x) hmade hc (fun x hx _ => hf x hx) hs hblk (by rw [World.size_alloc]; omega) ⟨hg.os.trans hBw.os, hg.tape.trans hBw.tape, hg.output.trans hBw.output⟩
      ⟨n + 1, by omega, hm8.at (Below.heap_alloc _ _ _ hm8.lt)⟩ (if_pos rfl) (fun x hx => if_neg hx) hv0 (Nat.zero_le _) (by rw [hns]; omega) (hw.mineLe s) (heap_alloc_new W8 _) (by omega)
    have e : 0 + d.size - szO (D.now s) = d.size := by rw [hns]; omega
    rw [e] at this
    exact this
  obtain ⟨dl, hdl2⟩ : ∃ dl, d.size = dl := ⟨_, rfl⟩
  rw [hdl2] at HX HX8 HC hfit hdl ⊢
  obtain ⟨u, hu1⟩ : ∃ u, D.used = u := ⟨_, rfl⟩
  obtain ⟨r, hr1⟩ : ∃ r, D.room = r := ⟨_, rfl⟩
  rw [hu1] at HX HC hfit hu2
  rw [hr1] at HX hfit hrm
  clear hconv hI hbl hmbl hdb hm hn hf hc h hw hs hright hfail hr h0 hin hus hmade hdl2 hu1 hr1 hns hs63 hmine hsafe hnow hFs hk
  by_cases hpos : 0 < dl
  · have hroom : u + dl ≤ r := by have := hfit (by omega); omega
    have g0 : decide (0 < dl) = true := by simp; omega
    have g1 : IntKind.i64.wrap ((u : Int) + (dl : Int)) = ((u + dl : Nat) : Int) := by rw [IntKind.wrap_i64]; omega
    have g2 : decide (r < u + dl) = false := by simp; omega
    clear hfit
    go_enter Try.func21, Try.ntmps21
    go_wp2_with fail
    refine CR.out.mono ?_
    rintro e W ⟨rfl, hB⟩
    go_wp2_with fail
    obtain ⟨na, sa, ca, nc, sl, sc, cl, cc, nt, st, sh, cK⟩ := CK.out W hB
    have CKK := Lib.hid cK
    clear cK
    refine CKK.out.mono ?_
    rintro e W2 ⟨rfl, hB2⟩
    have q0 := field_now nt st sh na sa ca 0 nc sl sc cl cc
    have q1 := field_bytes nt na 0 nc
    have hBB := hB.trans (hB2.mono hB.size)
    have HBB := Lib.hid hBB
    obtain ⟨⟨k0, k1, k2⟩, _, _, _⟩ := HX.out W2 hBB
    clear hB hB2 hBB
    go_wp2_with fail
    go_quiet (fail)
    have HB5 := Lib.hid (below_drewN (m := nq) HBB.out)
    clear HBB
    generalize W2.drewN nq = W5 at HB5 ⊢
    obtain ⟨⟨p0, _, _⟩, _, _, hw5⟩ := HX.out W5 HB5.out
    go_wp2_with (first | (refine wpList_lookup_ran (o := ⟨some 57, _, _, _, _, _⟩) rfl _ _ _ _ rfl rfl rfl (HX.out _ HB5.out).2.1 ?_))
    obtain ⟨W6, hW6⟩ : ∃ W6, W5.alloc (.cells #[.bool false, .slice none 0 0, .bool false, .slice none 0 0, .bool false, .slice none 0 0] 78) = W6 := ⟨_, rfl⟩
    rw [hW6]
    have hsz6 : W6.heap.size = W5.heap.size + 1 := by rw [← hW6]; simp
    have hB6 : Below w.heap.size w W6 := by rw [← hW6]; exact HB5.out.alloc HB5.out.size _
    have hF6 : FB W6 W5.heap.size false (.slice none 0 0) false (.slice none 0 0) false (.slice none 0 0) := by rw [← hW6]; exact heap_alloc_new W5 _
    obtain ⟨⟨p06, _, _⟩, _, _, _⟩ := HX.out W6 hB6
    have p6 := fun d os => cell_regrown p06 d os
    have CCL : Hid (∀ d os, Calls Try.prog 46 #[.string s] (grow (redrawn W6 d) os) fun e W => e = .returned (.string s) ∧ ∃ p : Regrown, W = grow (redrawn W6 p.d) p.os) := Lib.hid fun d os => Calls.regrown_of (CS.out _)
    have H6 := Lib.hid (And.intro hB6 (And.intro hF6 hsz6))
    clear hB6 hF6 p0 p06 hW6 hsz6
    refine wp_region_quiet_tail (C := fun w' => ∃ p : Regrown, w' = grow (redrawn W6 p.d) p.os) 7 (by kernel_rfl) (by kernel_rfl) ⟨⟨W6.drawn + 1, #[]⟩, by rw [grow_empty]; rfl⟩ ?_
    simp only [List.take_succ_cons, List.take_zero, List.drop_succ_cons, List.drop_zero]
    repeat (go_big_quiet_step ((first | exact CCL.out _ _)))
    refine wpQuiet_nil ?_
    intro wq hq
    obtain ⟨⟨dq, osq⟩, rfl⟩ := hq
    have hBq : Below W6.heap.size W6 (grow (redrawn W6 dq) osq) := below_regrown W6 dq osq
    obtain ⟨hB6, hF6, hsz6⟩ := H6.out
    generalize grow (redrawn W6 dq) osq = wq at hBq ⊢
    obtain ⟨W8, hst, hm8, hg8⟩ := HM.out wq W5.heap.size (hB6.trans (hBq.mono hB6.size))
    have hfin := HC.out W5 W6 wq W8 HB5.out hB6 hBq hsz6 hF6 hg8 hm8
    have hX8 := HX8.out W6 wq W8 hB6 hBq hg8
    have HST := Lib.hid hst
    have HFIN := Lib.hid hfin
    have HX88 := Lib.hid hX8
    clear hst hm8 hg8 hfin hBq hB6 hF6 hX8 H6 p6 CCL hsz6
    refine wpList_mapUpdate_ran rfl _ _ _ _ rfl rfl rfl rfl HST.out ?_
    clear HST
    go_wp2_with (first | (refine wpList_exec_ran (o := ⟨some 71, _, _, _, _, _⟩) rfl (run_conv HX88.out) ?_))
    refine HFIN.out.mono ?_
    rintro e W9 ⟨rfl, ⟨r0, r1, r2, r3⟩, HN⟩
    go_wp2_with fail
    refine HN.out.mono ?_
    rintro e W10 ⟨rfl, ⟨s0, s1⟩, HF⟩
    go_wp2_with fail
    go_ret
    exact ⟨rfl, HF.out⟩
  · obtain rfl : dl = 0 := by omega
    clear hfit hpos
    go_enter Try.func21, Try.ntmps21
    go_wp2_with fail
    refine CR.out.mono ?_
    rintro e W ⟨rfl, hB⟩
    go_wp2_with fail
    obtain ⟨na, sa, ca, nc, sl, sc, cl, cc, nt, st, sh, cK⟩ := CK.out W hB
    have CKK := Lib.hid cK
    clear cK
    refine CKK.out.mono ?_
    rintro e W2 ⟨rfl, hB2⟩
    have q0 := field_now nt st sh na sa ca 0 nc sl sc cl cc
    have q1 := field_bytes nt na 0 nc
    have hBB := hB.trans (hB2.mono hB.size)
    have HBB := Lib.hid hBB
    obtain ⟨⟨k0, k1, k2⟩, _, _, _⟩ := HX.out W2 hBB
    clear hB hB2 hBB
    go_wp2_with fail
    go_quiet (fail)
    have HB5 := Lib.hid (below_drewN (m := nq) HBB.out)
    clear HBB
    generalize W2.drewN nq = W5 at HB5 ⊢
    obtain ⟨⟨p0, _, _⟩, _, _, hw5⟩ := HX.out W5 HB5.out
    go_wp2_with (first | (refine wpList_lookup_ran (o := ⟨some 57, _, _, _, _, _⟩) rfl _ _ _ _ rfl rfl rfl (HX.out _ HB5.out).2.1 ?_))
    obtain ⟨W6, hW6⟩ : ∃ W6, W5.alloc (.cells #[.bool false, .slice none 0 0, .bool false, .slice none 0 0, .bool false, .slice none 0 0] 78) = W6 := ⟨_, rfl⟩
    rw [hW6]
    have hsz6 : W6.heap.size = W5.heap.size + 1 := by rw [← hW6]; simp
    have hB6 : Below w.heap.size w W6 := by rw [← hW6]; exact HB5.out.alloc HB5.out.size _
    have hF6 : FB W6 W5.heap.size false (.slice none 0 0) false (.slice none 0 0) false (.slice none 0 0) := by rw [← hW6]; exact heap_alloc_new W5 _
    obtain ⟨⟨p06, _, _⟩, _, _, _⟩ := HX.out W6 hB6
    have p6 := fun d os => cell_regrown p06 d os
    have CCL : Hid (∀ d os, Calls Try.prog 46 #[.string s] (grow (redrawn W6 d) os) fun e W => e = .returned (.string s) ∧ ∃ p : Regrown, W = grow (redrawn W6 p.d) p.os) := Lib.hid fun d os => Calls.regrown_of (CS.out _)
    have H6 := Lib.hid (And.intro hB6 (And.intro hF6 hsz6))
    clear hB6 hF6 p0 p06 hW6 hsz6
    refine wp_region_quiet_tail (C := fun w' => ∃ p : Regrown, w' = grow (redrawn W6 p.d) p.os) 7 (by kernel_rfl) (by kernel_rfl) ⟨⟨W6.drawn + 1, #[]⟩, by rw [grow_empty]; rfl⟩ ?_
    simp only [List.take_succ_cons, List.take_zero, List.drop_succ_cons, List.drop_zero]
    repeat (go_big_quiet_step ((first | exact CCL.out _ _)))
    refine wpQuiet_nil ?_
    intro wq hq
    obtain ⟨⟨dq, osq⟩, rfl⟩ := hq
    have hBq : Below W6.heap.size W6 (grow (redrawn W6 dq) osq) := below_regrown W6 dq osq
    obtain ⟨hB6, hF6, hsz6⟩ := H6.out
    generalize grow (redrawn W6 dq) osq = wq at hBq ⊢
    obtain ⟨W8, hst, hm8, hg8⟩ := HM.out wq W5.heap.size (hB6.trans (hBq.mono hB6.size))
    have hfin := HC.out W5 W6 wq W8 HB5.out hB6 hBq hsz6 hF6 hg8 hm8
    have hX8 := HX8.out W6 wq W8 hB6 hBq hg8
    have HST := Lib.hid hst
    have HFIN := Lib.hid hfin
    have HX88 := Lib.hid hX8
    clear hst hm8 hg8 hfin hBq hB6 hF6 hX8 H6 p6 CCL hsz6
    refine wpList_mapUpdate_ran rfl _ _ _ _ rfl rfl rfl rfl HST.out ?_
    clear HST
    go_wp2_with (first | (refine wpList_exec_ran (o := ⟨some 71, _, _, _, _, _⟩) rfl (run_conv HX88.out) ?_))
    refine HFIN.out.mono ?_
    rintro e W9 ⟨rfl, ⟨r0, r1, r2, r3⟩, HN⟩
    go_wp2_with fail
    refine HN.out.mono ?_
    rintro e W10 ⟨rfl, ⟨s0, s1⟩, HF⟩
    go_wp2_with fail
    go_ret
    exact ⟨rfl, HF.out⟩

/-- Write. -/
theorem write_calls (w : World) (O : Owner) (db : Nat) (D : DS) (h : DiskAt w O db D) (hw : WF D) (hmade : D.made ≤ 4294967296) (s : ByteArray) (hs63 : s.size ≤ 9223372036854775807) (k : Int) (hk63 : k ≤ 9223372036854775807) (dv : Value) (d : ByteArray) (hdl : d.size ≤ 140737488351232) (hI : Bytes w.heap.size w dv (bytesS d)) :
    Calls Try.prog 21 #[.pointer (some ⟨db, 0, none⟩), .string s, .int .i64 k, dv] w (WroteD w O db D s k d) := by
  by_cases h0 : D.writeN s k d.size = 0
  · obtain ⟨hr, _, _⟩ := writeN_zero h0
    obtain ⟨_, _, hk0⟩ := refN_zero hr
    obtain ⟨kN, rfl⟩ : ∃ kN : Nat, k = (kN : Nat) := ⟨k.toNat, by omega⟩
    have : D.write s (kN : Nat) d = D.wrote s kN d := by unfold DS.write; rw [if_pos h0]; rfl
    unfold WroteD
    rw [h0, this]
    by_cases hin : s ∈ D.names
    · exact write_old w O db D h hw hmade s kN dv d hdl hI h0 hin
    · exact write_new w O db D h hw hmade s kN dv d hdl hI h0 hin
  · have : D.write s k d = D := by unfold DS.write; rw [if_neg h0]
    unfold WroteD
    rw [this]
    obtain ⟨A, cap, rfl⟩ := hI.form
    rw [bytesS_length]
    refine (write_err w O db D h hw hmade s hs63 k hk63 A d.size cap hdl h0).mono ?_
    rintro e W ⟨rfl, hB⟩
    exact ⟨rfl, O, h.below hB, Past.of_below O hB⟩

end Go.Proofs.Ytmegiilkcidanaa.Disk
