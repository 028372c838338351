/-
  Rows of the law ModelSums: texts, sums, records; what a record more makes of them.
-/
import Derived.Test.YtmfndimejnbgkaaModelState
import Derived.Test.YtmfndimejnbgkaaRowOf
import Derived.Test.YtmfndimejnbgkaaModelOpen
import Derived.Test.YtmfndimejnbgkaaModelSumsLeaf
import Derived.Test.YtmfndimejnbgkaaRowN
import Derived.Test.YtmfndimejnbgkaaSeen
namespace Go.Proofs.Ytmfndimejnbgkaa.Model
open Go Go.RowKit Go.Lib Go.Sort Go.Shelf Go.Maps Go.Proofs.Ytmfndimejnbgkaa.Law Go.Proofs.Ytmfndimejnbgkaa.Graph Go.Proofs.Ytmfndimejnbgkaa.Fold

/-- A text's place, or -1. -/
def FindR (l : List ByteArray) (s : ByteArray) (z : Int) : Prop := (z = -1 ∧ s ∉ l) ∨ ∃ i : Nat, z = i ∧ l[i]? = some s
def RetFi (w : World) (l : List ByteArray) (s : ByteArray) (e : Ending) (W : World) : Prop := ∃ z, e = .returned (.int .i64 z) ∧ FindR l s z ∧ Below w.heap.size w W

set_option maxRecDepth 100000 in
set_option maxHeartbeats 4000000 in
theorem find_calls (l : List ByteArray) (hl : l.length * 16 ≤ 140737488355328) (s : ByteArray) (v : Value) (w : World) (h : OldR Value.string w.heap.size w v l) :
    Calls Try.prog 12 #[v, .string s] w (RetFi w l s) := by
  obtain ⟨A, cap, rfl, _⟩ := h.form
  obtain ⟨n, hN⟩ : ∃ n, l.length = n := ⟨_, rfl⟩
  rw [hN] at h hl ⊢
  have HN := Lib.hid hN
  have HI := Lib.hid h
  have hnn : n ≤ 8796093022208 := by omega
  clear hN h hl
  go_enter Try.func12, Try.ntmps12
  go_wp2_with fail
  go_loopw [5] (fun i wr => ∃ k : Nat, i = .int .i64 k ∧ k ≤ n ∧ Hid (s ∉ l.take k ∧ Below w.heap.size w wr)) (fun i _ => n - (intOf i).toNat)
  case atStart => exact ⟨0, rfl, Nat.zero_le _, Lib.hid ⟨by simp, Below.refl _ _⟩⟩
  case round =>
    obtain ⟨k, rfl, hk, HO⟩ := hrel
    by_cases hlt : k < n
    · obtain ⟨p, hp⟩ : ∃ p, l[k]? = some p := ⟨_, List.getElem?_eq_getElem (by rw [HN.out]; exact hlt)⟩
      obtain ⟨hK, hB⟩ := HO.out
      obtain ⟨b, off, rfl, hb, hc⟩ := (RowAt.low hB HI.out).at (by omega)
      have c0 := hc k p hp
      have HK1 : Hid (k + 1 ≤ n) := Lib.hid hlt
      have HB := Lib.hid hB
      have HP := Lib.hid hp
      by_cases he : p = s
      · subst he
        clear hK hB hb hc hp HO
        go_wp2_with fail
        try go_quiet (fail)
        try go_wp2_with fail
        go_ret
        first
        | exact ⟨k, rfl, .inr ⟨k, rfl, HP.out⟩, HB.out⟩
        | exact ⟨k, rfl, .inr ⟨k, rfl, HP.out⟩, below_drewN' HB.out nq⟩
      · have ek : (p.toList == s.toList) = false := by
          rw [beq_eq_false_iff_ne]
          intro h0
          apply he
          rw [Lib.toList_data, Lib.toList_data] at h0
          exact ByteArray.ext (Array.toList_inj.1 h0)
        have HG : Hid (s ∉ l.take (k + 1)) := Lib.hid (by
          rw [Graph.take_snoc hp, List.mem_append, List.mem_singleton]
          rintro (h1 | h1)
          · exact hK h1
          · exact he h1.symm)
        clear hK hB hb hc hp HO
        go_wp2_with fail
        try go_quiet (fail)
        try go_wp2_with fail
        go_roundw
        case rel => first
          | exact ⟨k + 1, by go_num, HK1.out, Lib.hid ⟨HG.out, HB.out⟩⟩
          | exact ⟨k + 1, by go_num, HK1.out, Lib.hid ⟨HG.out, below_drewN' HB.out nq⟩⟩
        case measure => have h := HK1.out; simp [intOf]; omega
    · obtain rfl : k = n := by omega
      obtain ⟨hK, hB⟩ := HO.out
      rw [List.take_of_length_le (by rw [HN.out]; exact Nat.le_refl _)] at hK
      have HK := Lib.hid hK
      have HB := Lib.hid hB
      clear hK hB HO
      go_wp2_with fail
      go_ret
      exact ⟨-1, rfl, .inl ⟨rfl, HK.out⟩, HB.out⟩
end Go.Proofs.Ytmfndimejnbgkaa.Model
namespace Go.Proofs.Ytmfndimejnbgkaa.Model
open Go Go.RowKit Go.ChangeShapes Go.WideShapes Go.Deep Go.Proofs.Ytmfndimejnbgkaa.Law Go.Proofs.Ytmfndimejnbgkaa.Graph Go.Proofs.Ytmfndimejnbgkaa.Fold

/-- The slice value reads as lists of records; all blocks are in S. -/
def EpochsAt (S : Nat → Prop) (W : World) (v : Value) (l : List (List Rc)) : Prop :=
  ∃ A cap, v = .slice A l.length cap ∧ l.length ≤ cap ∧ (A = none → cap = 0) ∧ (0 < l.length → ∃ b off, A = some ⟨b, off, none⟩ ∧ S b ∧ ∀ j x, l[j]? = some x → ∃ u, W.cell? ⟨b, off + j, none⟩ = some u ∧ RecsAt S W u x)
theorem EpochsAt.form {S : Nat → Prop} {W : World} {v : Value} {l : List (List Rc)} (h : EpochsAt S W v l) : ∃ A cap, v = .slice A l.length cap ∧ l.length ≤ cap := by
  obtain ⟨A, cap, h1, h2, _⟩ := h; exact ⟨A, cap, h1, h2⟩
theorem EpochsAt.nil (S : Nat → Prop) (W : World) : EpochsAt S W (.slice none 0 0) [] := ⟨none, 0, rfl, Nat.le_refl _, fun _ => rfl, fun h => absurd h (Nat.lt_irrefl _)⟩
theorem EpochsAt.at {S : Nat → Prop} {W : World} {A : Option Addr} {len cap : Nat} {l : List (List Rc)} (h : EpochsAt S W (.slice A len cap) l) (hp : 0 < len) :
    ∃ b off, A = some ⟨b, off, none⟩ ∧ S b ∧ ∀ j x, l[j]? = some x → ∃ u, W.cell? ⟨b, off + j, none⟩ = some u ∧ RecsAt S W u x := by
  obtain ⟨A', cap', h1, _, _, h4⟩ := h
  simp only [Value.slice.injEq] at h1
  obtain ⟨rfl, rfl, rfl⟩ := h1
  exact h4 hp
theorem EpochsAt.keep {S T : Nat → Prop} {W W' : World} (hb : ∀ b, S b → W'.heap[b]? = W.heap[b]?) (hST : ∀ b, S b → T b) {v : Value} {l : List (List Rc)} (h : EpochsAt S W v l) : EpochsAt T W' v l := by
  obtain ⟨A, cap, h1, h2, h3, h4⟩ := h
  refine ⟨A, cap, h1, h2, h3, fun hp => ?_⟩
  obtain ⟨b, off, e, hS, hc⟩ := h4 hp
  refine ⟨b, off, e, hST b hS, fun j x hx => ?_⟩
  obtain ⟨u, hu, ht⟩ := hc j x hx
  exact ⟨u, by simp only [World.cell?, hb b hS]; exact hu, ht.keep hb hST⟩
theorem EpochsAt.mono {S T : Nat → Prop} {W : World} (hST : ∀ b, S b → T b) {v : Value} {l : List (List Rc)} (h : EpochsAt S W v l) : EpochsAt T W v l := h.keep (fun _ _ => rfl) hST
abbrev OldEp (n : Nat) (W : World) (v : Value) (l : List (List Rc)) : Prop := EpochsAt (fun b => b < n) W v l
theorem EpochsAt.low {n : Nat} {A B : World} (h : Below n A B) {v : Value} {l : List (List Rc)} (hI : OldEp n A v l) : OldEp n B v l := hI.keep (fun b hb => h.block b hb) (fun _ h => h)
theorem EpochsAt.on {A B : World} (h : Below A.heap.size A B) {v : Value} {l : List (List Rc)} (hI : OldEp A.heap.size A v l) : OldEp B.heap.size B v l := (EpochsAt.low h hI).mono (fun _ hb => Nat.lt_of_lt_of_le hb h.size)


section
variable {H : Type} {enc : TypeId × Value → H} {w : World}
set_option maxRecDepth 100000 in
theorem open_recsP {v : Value} {x : DataW H × List MemPlace} {fuel : Nat} (hf : DataW.trod enc Try.prog w 0 (fun _ => true) true fuel 37 [v] = some x) (hw : ∀ y ∈ x.1.weights Try.prog 37, y ≤ reachBytes) :
    ∃ l : List Rc, OldRc w.heap.size w v l ∧ wfR l ∧ l.length * 48 ≤ 140737488351232 := by
  rcases open_slice Try.underlying37 hf with ⟨hcs, hx⟩ | ⟨a, len, cap, m, n, D, Pl, hcs, hb, hl, hm, hmm, hx, hi⟩
  · obtain rfl : v = .slice none 0 0 := by simpa using hcs
    exact ⟨[], ⟨none, 0, rfl, Nat.le_refl _, fun _ => rfl, fun h => absurd h (Nat.lt_irrefl _)⟩, (fun _ h => by cases h), by simp⟩
  · obtain rfl : v = .slice (some a) len cap := by simpa using hcs
    obtain rfl : m = cap := by simpa using hmm
    subst hx
    have hC : Try.prog.cellsOf 39 = 5 := by kernel_rfl
    have hBy : Try.prog.bytesOf 39 = 48 := by kernel_rfl
    have hreach : reachBytes = 140737488351232 := rfl
    have hwlen : m * 48 ≤ 140737488351232 := by
      have := hw ((((List.range len).map D).length + ((List.range (m - len)).map fun j => D (len + j)).length) * Try.prog.bytesOf 39) (by rw [DataW.weights, Try.underlying37]; exact List.mem_cons_self)
      simp only [List.length_map, List.length_range, hBy, hreach] at this
      omega
    rw [hC] at hi
    have hone : ∀ i, i < len → ∃ x : Rc, a.spot = none ∧ Cells5 w a.block (a.off + i * 5) x ∧ (Short x.key ∧ x.val < 4294967296 ∧ i64 x.producer ∧ i64 x.seq ∧ i64 x.part) ∧ a.block < w.heap.size := by
      intro i hil
      obtain ⟨cs', hc, ht⟩ := hi i (by omega)
      obtain ⟨s, _, h2, h3⟩ := open_rec hc ht
      obtain ⟨cs0, hc0, ht0⟩ := hi 0 (by omega)
      obtain ⟨_, h0, _⟩ := open_rec hc0 ht0
      obtain ⟨ab, ao, sp⟩ := a
      have hsp : sp = none := by simpa [Addr.add] using h0
      subst hsp
      rw [Addr.add_lit] at h2 h3
      exact ⟨s, rfl, h2, h3⟩
    obtain ⟨X, hX⟩ := Classical.axiomOfChoice (r := fun (i : Nat) (s : Rc) => i < len → a.spot = none ∧ Cells5 w a.block (a.off + i * 5) s ∧ (Short s.key ∧ s.val < 4294967296 ∧ i64 s.producer ∧ i64 s.seq ∧ i64 s.part) ∧ a.block < w.heap.size) (fun i => by
      by_cases h : i < len
      · obtain ⟨x, hx⟩ := hone i h
        exact ⟨x, fun _ => hx⟩
      · exact ⟨⟨0, 0, 0, ⟨#[]⟩, 0⟩, fun h' => absurd h' h⟩)
    have hget : ∀ (j : Nat) (x : Rc), ((List.range len).map X)[j]? = some x → j < len ∧ X j = x := by
      intro j x hx
      rw [List.getElem?_map] at hx
      by_cases hj : j < len
      · rw [List.getElem?_range hj] at hx
        exact ⟨hj, by simpa using hx⟩
      · rw [List.getElem?_eq_none (by simp; omega)] at hx
        simp at hx
    refine ⟨(List.range len).map X, ⟨some a, m, by simp, by simpa using hl, (fun h => by cases h), fun hp => ?_⟩, fun y hy => ?_, by simp; omega⟩
    · have hp' : 0 < len := by simpa using hp
      obtain ⟨hs, _, _, hb⟩ := hX 0 hp'
      obtain ⟨ab, ao, spot⟩ := a
      obtain rfl : spot = none := hs
      refine ⟨ab, ao, rfl, hb, fun j x hx => ?_⟩
      obtain ⟨hj, rfl⟩ := hget j x hx
      exact (hX j hj).2.1
    · obtain ⟨j, hj, rfl⟩ := List.mem_map.1 hy
      exact (hX j (List.mem_range.1 hj)).2.2.1
set_option maxRecDepth 100000 in
theorem open_epochsP {v : Value} {x : DataW H × List MemPlace} {fuel : Nat} (hf : DataW.trod enc Try.prog w 0 (fun _ => true) true fuel 22 [v] = some x) (hw : ∀ y ∈ x.1.weights Try.prog 22, y ≤ reachBytes) :
    ∃ l : List (List Rc), OldEp w.heap.size w v l ∧ (∀ p ∈ l, wfR p ∧ p.length * 48 ≤ 140737488351232) ∧ l.length * 24 ≤ 140737488351232 := by
  rcases open_slice Try.underlying22 hf with ⟨hcs, hx⟩ | ⟨a, len, cap, m, n, D, Pl, hcs, hb, hl, hm, hmm, hx, hi⟩
  · obtain rfl : v = .slice none 0 0 := by simpa using hcs
    exact ⟨[], EpochsAt.nil _ _, by simp, by simp⟩
  · obtain rfl : v = .slice (some a) len cap := by simpa using hcs
    obtain rfl : m = cap := by simpa using hmm
    subst hx
    have hC : Try.prog.cellsOf 37 = 1 := by kernel_rfl
    have hBy : Try.prog.bytesOf 37 = 24 := by kernel_rfl
    have hreach : reachBytes = 140737488351232 := rfl
    have hwlen : m * 24 ≤ 140737488351232 := by
      have := hw ((((List.range len).map D).length + ((List.range (m - len)).map fun j => D (len + j)).length) * Try.prog.bytesOf 37) (by rw [DataW.weights, Try.underlying22]; exact List.mem_cons_self)
      simp only [List.length_map, List.length_range, hBy, hreach] at this
      omega
    rw [hC] at hi
    have hone : ∀ i, i < len → ∃ p : List Rc, a.spot = none ∧ (∃ u, w.cell? ⟨a.block, a.off + i, none⟩ = some u ∧ OldRc w.heap.size w u p) ∧ (wfR p ∧ p.length * 48 ≤ 140737488351232) ∧ a.block < w.heap.size := by
      intro i hil
      have hDm : D i ∈ (List.range len).map D := List.mem_map.2 ⟨i, List.mem_range.2 hil, rfl⟩
      obtain ⟨cs', hc, ht⟩ := hi i (by omega)
      obtain ⟨_, hlen, hat⟩ := World.cells?_some hc
      match cs', hlen with
      | [u], _ =>
        obtain ⟨p, hp, hpw, hpl⟩ := open_recsP ht (fun z hz => hw z (by
          rw [DataW.weights, Try.underlying22]
          exact List.mem_cons_of_mem _ (List.mem_append_left _ (weightsAll_in hDm hz))))
        have c0 := hat 0 (by omega)
        obtain ⟨cs0, hc0, ht0⟩ := hi 0 (by omega)
        obtain ⟨_, hlen0, hat0⟩ := World.cells?_some hc0
        match cs0, hlen0 with
        | [u0], _ =>
        have hD0 : D 0 ∈ (List.range len).map D := List.mem_map.2 ⟨0, List.mem_range.2 (by omega), rfl⟩
        obtain ⟨p0, hp0, _, _⟩ := open_recsP ht0 (fun z hz => hw z (by
          rw [DataW.weights, Try.underlying22]
          exact List.mem_cons_of_mem _ (List.mem_append_left _ (weightsAll_in hD0 hz))))
        have d0 := hat0 0 (by omega)
        obtain ⟨A0, cap0, rfl, _⟩ := hp0.form
        obtain ⟨ab, ao, sp⟩ := a
        have hsp : sp = none := by
          have h := World.cell?_spot (d0.trans (rfl : _ = some (Value.slice A0 p0.length cap0)))
          simpa [Addr.add] using h
        subst hsp
        rw [Addr.add_lit, Addr.add_lit] at c0
        have e1 : ao + i * 1 + 0 = ao + i := by omega
        rw [e1] at c0
        exact ⟨p, rfl, ⟨_, c0, hp⟩, ⟨hpw, hpl⟩, block_lt_cell c0⟩
    obtain ⟨X, hX⟩ := Classical.axiomOfChoice (r := fun (i : Nat) (p : List Rc) => i < len → a.spot = none ∧ (∃ u, w.cell? ⟨a.block, a.off + i, none⟩ = some u ∧ OldRc w.heap.size w u p) ∧ (wfR p ∧ p.length * 48 ≤ 140737488351232) ∧ a.block < w.heap.size) (fun i => by
      by_cases h : i < len
      · obtain ⟨x, hx⟩ := hone i h
        exact ⟨x, fun _ => hx⟩
      · exact ⟨[], fun h' => absurd h' h⟩)
    have hget : ∀ (j : Nat) (x : List Rc), ((List.range len).map X)[j]? = some x → j < len ∧ X j = x := by
      intro j x hx
      rw [List.getElem?_map] at hx
      by_cases hj : j < len
      · rw [List.getElem?_range hj] at hx
        exact ⟨hj, by simpa using hx⟩
      · rw [List.getElem?_eq_none (by simp; omega)] at hx
        simp at hx
    refine ⟨(List.range len).map X, ⟨some a, m, by simp, by simpa using hl, (fun h => by cases h), fun hp => ?_⟩, fun y hy => ?_, by simp; omega⟩
    · have hp' : 0 < len := by simpa using hp
      obtain ⟨hs, _, _, hb⟩ := hX 0 hp'
      obtain ⟨ab, ao, spot⟩ := a
      obtain rfl : spot = none := hs
      refine ⟨ab, ao, rfl, hb, fun j x hx => ?_⟩
      obtain ⟨hj, rfl⟩ := hget j x hx
      exact (hX j hj).2.1
    · obtain ⟨j, hj, rfl⟩ := List.mem_map.1 hy
      exact (hX j (List.mem_range.1 hj)).2.2.1
set_option maxRecDepth 100000 in
theorem open_epochs {base : Nat} {v : Value} {d : DataW H} {ps : List MemPlace} (hval : Value.okWide Try.prog w .any base 22 v) (h : DataW.Trod enc Try.prog w 0 (fun _ => true) true 22 v d ps) (hw : (d.weights Try.prog 22).all (· ≤ reachBytes) = true) :
    ∃ l : List (List Rc), OldEp w.heap.size w v l ∧ (∀ p ∈ l, wfR p ∧ p.length * 48 ≤ 140737488351232) ∧ l.length * 24 ≤ 140737488351232 := by
  have hw' : ∀ x ∈ d.weights Try.prog 22, x ≤ reachBytes := fun x hx => by simpa using List.all_eq_true.1 hw x hx
  obtain ⟨a1, len1, cap1, rfl⟩ := okWide_slice Try.underlying22 hval
  obtain ⟨fuel, hf⟩ := h
  exact open_epochsP (x := (d, ps)) (by simpa [Value.cells] using hf) hw'
end
end Go.Proofs.Ytmfndimejnbgkaa.Model
namespace Go.Proofs.Ytmfndimejnbgkaa.Model
open Go Go.RowKit Go.Lib Go.Sort Go.Shelf Go.Maps Go.Proofs.Ytmfndimejnbgkaa.Law Go.Proofs.Ytmfndimejnbgkaa.Graph Go.Proofs.Ytmfndimejnbgkaa.Fold

def strK : Kd ByteArray where
  c := fun s => [.string s]
  k := 1
  pos := by decide
  len := fun _ => rfl
  one := fun r u h => by obtain rfl := List.mem_singleton.1 h; rfl
def u32K : Kd Nat where
  c := fun s => [.int .u32 (s : Nat)]
  k := 1
  pos := by decide
  len := fun _ => rfl
  one := fun r u h => by obtain rfl := List.mem_singleton.1 h; rfl
def rcK : Kd Rc where
  c := fun r => [.int .i64 r.producer, .int .i64 r.seq, .int .i64 r.part, .string r.key, .int .u32 (r.val : Nat)]
  k := 5
  pos := by decide
  len := fun _ => rfl
  one := fun r u h => by
    simp only [List.mem_cons, List.not_mem_nil, or_false] at h
    rcases h with rfl | rfl | rfl | rfl | rfl <;> rfl
theorem strs_row {S : Nat → Prop} {W : World} {v : Value} {l : List ByteArray} (h : RowsAt strK S W v l) : RowAt Value.string S W v l := by
  obtain ⟨A, cap, h1, h2, h3, h4⟩ := h
  refine ⟨A, cap, h1, h2, h3, fun hp => ?_⟩
  obtain ⟨b, off, e, hS, hc⟩ := h4 hp
  refine ⟨b, off, e, hS, fun j x hx => ?_⟩
  have := hc j x hx 0 _ rfl
  rwa [show off + j * strK.k + 0 = off + j by show off + j * 1 + 0 = _; omega] at this
theorem rcs_row {S : Nat → Prop} {W : World} {v : Value} {l : List Rc} (h : RowsAt rcK S W v l) : RecsAt S W v l := by
  obtain ⟨A, cap, h1, h2, h3, h4⟩ := h
  refine ⟨A, cap, h1, h2, h3, fun hp => ?_⟩
  obtain ⟨b, off, e, hS, hc⟩ := h4 hp
  exact ⟨b, off, e, hS, fun j x hx => ⟨hc j x hx 0 _ rfl, hc j x hx 1 _ rfl, hc j x hx 2 _ rfl, hc j x hx 3 _ rfl, hc j x hx 4 _ rfl⟩⟩
theorem info_str : (Try.prog.info? 9).map (fun i => (i.zero, i.size, i.bytes)) = some (some (.string ⟨#[]⟩), 1, 16) := by kernel_rfl
theorem info_rc : (Try.prog.info? 39).map (fun i => (i.zero, i.size, i.bytes)) = some (some (.agg #[.int .i64 0, .int .i64 0, .int .i64 0, .string ⟨#[]⟩, .int .u32 0]), 5, 48) := by kernel_rfl
abbrev OwnS (W : World) (base : Nat) (v : Value) (l : List ByteArray) : Prop := OwnN strK 9 W base v l
abbrev OwnU (W : World) (base : Nat) (v : Value) (l : List Nat) : Prop := OwnN u32K 25 W base v l
abbrev OwnRc (W : World) (base : Nat) (v : Value) (l : List Rc) : Prop := OwnN rcK 39 W base v l
theorem strs_append {w : World} {base : Nat} {v : Value} {l : List ByteArray} (h : OwnS w base v l) (hb : base ≤ w.heap.size) (s : ByteArray) (ty : TypeId) (hr : (l.length + 1) * 16 ≤ 140737488355328) :
    ∃ A c W', (Builtin.append_ #[35, 35] ty #[v, .slice (some ⟨w.heap.size, 0, none⟩) 1 1]).run Try.prog (w.alloc (.cells #[.string s] 9)) = .ok (.slice A (l.length + 1) c) W' ∧ OwnS W' base (.slice A (l.length + 1) c) (l ++ [s]) ∧ w.grownBy W' v.ownBlock ∧ ((Value.slice A (l.length + 1) c).ownBlock = v.ownBlock ∨ (Value.slice A (l.length + 1) c).ownBlock = some (w.heap.size + 1)) := by
  obtain ⟨i0, hi, hz0, hz1, hz2⟩ := info_parts info_str
  obtain ⟨v', W', hrun, h2, h3, h5⟩ := OwnN.append w ty Try.underlying35 hi hz0 hz1 hz2 rfl h hb s #[.string s] rfl (by unfold maxLen; omega) hr
  obtain ⟨A, c, rfl, _⟩ := h2.form
  rw [List.length_append] at hrun h2 h5
  exact ⟨A, c, W', hrun, h2, h3, h5⟩
theorem u32s_append {w : World} {base : Nat} {v : Value} {l : List Nat} (h : OwnU w base v l) (hb : base ≤ w.heap.size) (s : Nat) (ty : TypeId) (hr : (l.length + 1) * 4 ≤ 140737488355328) :
    ∃ A c W', (Builtin.append_ #[36, 36] ty #[v, .slice (some ⟨w.heap.size, 0, none⟩) 1 1]).run Try.prog (w.alloc (.cells #[.int .u32 (s : Nat)] 25)) = .ok (.slice A (l.length + 1) c) W' ∧ OwnU W' base (.slice A (l.length + 1) c) (l ++ [s]) ∧ w.grownBy W' v.ownBlock ∧ ((Value.slice A (l.length + 1) c).ownBlock = v.ownBlock ∨ (Value.slice A (l.length + 1) c).ownBlock = some (w.heap.size + 1)) := by
  obtain ⟨i0, hi, hz0, hz1, hz2⟩ := info_parts info_u32
  obtain ⟨v', W', hrun, h2, h3, h5⟩ := OwnN.append w ty Try.underlying36 hi hz0 hz1 hz2 rfl h hb s #[.int .u32 (s : Nat)] rfl (by unfold maxLen; omega) hr
  obtain ⟨A, c, rfl, _⟩ := h2.form
  rw [List.length_append] at hrun h2 h5
  exact ⟨A, c, W', hrun, h2, h3, h5⟩
theorem rcs_append {w : World} {base : Nat} {v : Value} {l : List Rc} (h : OwnRc w base v l) (hb : base ≤ w.heap.size) (r : Rc) (ty : TypeId) (hr : (l.length + 1) * 48 ≤ 140737488355328) :
    ∃ A c W', (Builtin.append_ #[37, 37] ty #[v, .slice (some ⟨w.heap.size, 0, none⟩) 1 1]).run Try.prog (w.alloc (.cells #[.int .i64 r.producer, .int .i64 r.seq, .int .i64 r.part, .string r.key, .int .u32 (r.val : Nat)] 39)) = .ok (.slice A (l.length + 1) c) W' ∧ OwnRc W' base (.slice A (l.length + 1) c) (l ++ [r]) ∧ w.grownBy W' v.ownBlock ∧ ((Value.slice A (l.length + 1) c).ownBlock = v.ownBlock ∨ (Value.slice A (l.length + 1) c).ownBlock = some (w.heap.size + 1)) := by
  obtain ⟨i0, hi, hz0, hz1, hz2⟩ := info_parts info_rc
  obtain ⟨v', W', hrun, h2, h3, h5⟩ := OwnN.append w ty Try.underlying37 hi hz0 hz1 hz2 rfl h hb r #[.int .i64 r.producer, .int .i64 r.seq, .int .i64 r.part, .string r.key, .int .u32 (r.val : Nat)] rfl (by unfold maxLen; omega) hr
  obtain ⟨A, c, rfl, _⟩ := h2.form
  rw [List.length_append] at hrun h2 h5
  exact ⟨A, c, W', hrun, h2, h3, h5⟩
/-- The rows as a record's pair is about to be added to the sum at j. -/
structure Mid (a : List Pr) (p : Pr) (K : List ByteArray) (T : List Nat) (j : Nat) : Prop where
  keys : K = keysL (a ++ [p])
  lt : j < T.length
  len : T.length = K.length
  tots : T.set j ((T.getD j 0 + p.val) % 4294967296) = totsL (a ++ [p])
theorem mid_new {a : List Pr} {p : Pr} (h : p.key ∉ keysL a) (hv : p.val < 4294967296) : Mid a p (keysL a ++ [p.key]) (totsL a ++ [0]) (keysL a).length := by
  obtain ⟨h1, h2⟩ := totsL_new h
  refine ⟨h1.symm, by simp [totsL_length], by simp [totsL_length], ?_⟩
  rw [h2, ← totsL_length]
  simp [List.getD, Nat.mod_eq_of_lt hv]
theorem mid_old {a : List Pr} {p : Pr} {i : Nat} (h : (keysL a)[i]? = some p.key) : Mid a p (keysL a) (totsL a) i := by
  obtain ⟨h1, h2⟩ := totsL_old h
  exact ⟨h1.symm, by rw [totsL_length]; exact (List.getElem?_eq_some_iff.1 h).1, totsL_length a, h2.symm⟩
theorem taken_snoc (l : List Rc) (r : Rc) : takenN (-1) (l ++ [r]) = takenN (-1) l ++ [⟨r.key, r.val⟩] := by rw [taken_append]; simp [takenN]
/-- The kinds of rows that the law writes itself. -/
def exS (o : Obj) : Prop := (∃ cs fz, o = .cells cs 9 fz) ∨ (∃ cs fz, o = .cells cs 25 fz) ∨ ∃ cs fz, o = .cells cs 39 fz
theorem OwnN.typed {α : Type} {K : Kd α} {e : TypeId} {W : World} {base : Nat} {v : Value} {l : List α} (h : OwnN K e W base v l) {g : Nat} (hg : v.ownBlock = some g) : ∃ cs fz, W.heap[g]? = some (.cells cs e fz) := by
  rcases h.2 with ⟨rfl, _⟩ | ⟨b, cap, cur, rfl, _, h2, _⟩
  · cases hg
  · obtain rfl : b = g := by simpa [Value.ownBlock] using hg
    exact ⟨_, _, h2⟩
theorem OwnN.apart {α β : Type} {K : Kd α} {K' : Kd β} {e e' : TypeId} (he : e ≠ e') {W : World} {base base' : Nat} {v v' : Value} {l : List α} {l' : List β} (h : OwnN K e W base v l) (h' : OwnN K' e' W base' v' l') {g : Nat} (hg : v.ownBlock = some g) : v'.ownBlock ≠ some g := fun hg' => by
  obtain ⟨c, f, h1⟩ := OwnN.typed h hg
  obtain ⟨c', f', h2⟩ := OwnN.typed h' hg'
  rw [h1] at h2
  simp only [Option.some.injEq, Obj.cells.injEq] at h2
  exact he h2.2.1
/-- An append leaves alone all but rows of its own kind. -/
theorem OwnN.keepsX {α : Type} {K : Kd α} {e : TypeId} {W W' : World} {base : Nat} {v : Value} {l : List α} (h : OwnN K e W base v l) (he : e = 9 ∨ e = 25 ∨ e = 39) (hg : W.grownBy W' v.ownBlock) : KeepsX exS 0 W W' := KeepsX.grown hg fun j hj => by
  obtain ⟨c, f, h1⟩ := OwnN.typed h hj
  refine .inr (.inr ⟨_, h1, ?_⟩)
  rcases he with rfl | rfl | rfl
  · exact .inl ⟨_, _, rfl⟩
  · exact .inr (.inl ⟨_, _, rfl⟩)
  · exact .inr (.inr ⟨_, _, rfl⟩)
theorem OwnN.other {α : Type} {K : Kd α} {e : TypeId} {W W' : World} {base : Nat} {v v' : Value} {l : List α} (h : OwnN K e W base v l) (hg : W.grownBy W' v'.ownBlock) (hne : ∀ g, v'.ownBlock = some g → v.ownBlock ≠ some g) : OwnN K e W' base v l := h.keep fun b hb => hg.block b (h.own hb).2 (fun e => hne b e.symm hb)
theorem owns_typed {W : World} {base : Nat} {e : TypeId} {size : Nat} {v : Value} {n : Nat} {cs : List Value} (h : W.ownsRow base e size v n cs) {g : Nat} (hg : v.ownBlock = some g) : ∃ cs fz, W.heap[g]? = some (.cells cs e fz) := by
  rcases h.2 with ⟨rfl, _⟩ | ⟨b, cap, cur, rfl, _, h2, _⟩
  · cases hg
  · obtain rfl : b = g := by simpa [Value.ownBlock] using hg
    exact ⟨_, _, h2⟩
theorem not_exS {cs : Array Value} {t : TypeId} {fz : Nat × Nat} (h : t ≠ 9 ∧ t ≠ 25 ∧ t ≠ 39) : ¬ exS (.cells cs t fz) := by
  rintro (⟨_, _, h1⟩ | ⟨_, _, h1⟩ | ⟨_, _, h1⟩) <;> simp only [Obj.cells.injEq] at h1
  · exact h.1 h1.2.1
  · exact h.2.1 h1.2.1
  · exact h.2.2 h1.2.1
theorem folds_typed {W W' : World} {base : Nat} {v : Value} {ll : List (List Pr)} (h : FoldsOwn W base v ll) (hx : ∀ (g : Nat) (cs : Array Value) (t : TypeId) (fz : Nat × Nat), W.heap[g]? = some (.cells cs t fz) → t = 41 ∨ t = 47 → W'.heap[g]? = W.heap[g]?) : FoldsOwn W' base v ll := by
  obtain ⟨us, h1, h2, h3⟩ := h
  refine ⟨us, h1, h2.keep fun g hg => ?_, fun j u p hu hp => (h3 j u p hu hp).keep fun g hg => ?_⟩
  · obtain ⟨c, f, hb⟩ := owns_typed h2 hg
    exact hx g _ _ _ hb (.inl rfl)
  · obtain ⟨c, f, hb⟩ := owns_typed (h3 j u p hu hp) hg
    exact hx g _ _ _ hb (.inr rfl)
/-- The store of a state into its box leaves all blocks of other types alone. -/
theorem store_state {W : World} {st : Nat} {u : Value} (h : W.heap[st]? = some (sObj u)) (v : Value) {g : Nat} {o : Obj} (hg : W.heap[g]? = some o) (ho : ∀ cs fz, o ≠ .cells cs 33 fz) : (W.setCell ⟨st, 0, none⟩ v).heap[g]? = some o :=
  (Below.heap_setCell _ _ _ g (fun e => by
    have e : g = st := e
    subst e
    rw [h] at hg
    exact ho _ _ (Option.some.inj hg).symm)).trans hg
theorem folds_x {W W' : World} {base : Nat} {v : Value} {ll : List (List Pr)} (h : FoldsOwn W base v ll) (hx : KeepsX exS 0 W W') : FoldsOwn W' base v ll := by
  obtain ⟨us, h1, h2, h3⟩ := h
  refine ⟨us, h1, h2.keep fun g hg => ?_, fun j u p hu hp => (h3 j u p hu hp).keep fun g hg => ?_⟩
  · obtain ⟨c, f, hb⟩ := owns_typed h2 hg
    rw [hb]; exact hx.same g _ (Nat.zero_le _) hb (not_exS (by decide))
  · obtain ⟨c, f, hb⟩ := owns_typed (h3 j u p hu hp) hg
    rw [hb]; exact hx.same g _ (Nat.zero_le _) hb (not_exS (by decide))
theorem u32_at {W : World} {base len cap : Nat} {A : Option Addr} {T : List Nat} (h : OwnU W base (.slice A len cap) T) {j : Nat} (hj : j < T.length) : ∃ g, A = some ⟨g, 0, none⟩ ∧ g < W.heap.size ∧ base ≤ g ∧ W.cell? ⟨g, j, none⟩ = some (.int .u32 ((T.getD j 0 : Nat) : Int)) ∧ W.frozen? ⟨g, j, none⟩ = false ∧ len = T.length ∧ len ≤ cap ∧
    ∀ v : Nat, OwnU (W.setCell ⟨g, j, none⟩ (.int .u32 (v : Int))) base (.slice A len cap) (T.set j v) ∧ W.grownBy (W.setCell ⟨g, j, none⟩ (.int .u32 (v : Int))) (some g) := by
  obtain ⟨A', c', e1, e2⟩ := h.form
  simp only [Value.slice.injEq] at e1
  obtain ⟨rfl, e3, rfl⟩ := e1
  obtain ⟨b, off, rfl, hb, hc⟩ := h.rows.at (by omega)
  have hx : T[j]? = some (T.getD j 0) := by rw [List.getD_eq_getElem?_getD, List.getElem?_eq_getElem hj]; rfl
  have hcell := hc j _ hx 0 _ rfl
  obtain ⟨cs, fz, ht⟩ := OwnN.typed h (g := b) rfl
  have h2 := h.2
  rcases h2 with ⟨e, _⟩ | ⟨b', cap', cur, e, q1, q2, _⟩
  · cases e
  · simp only [Value.slice.injEq, Option.some.injEq, Addr.mk.injEq, and_true] at e
    obtain ⟨⟨rfl, rfl⟩, -, rfl⟩ := e
    rw [show 0 + j * u32K.k + 0 = j by show 0 + j * 1 + 0 = j; omega] at hcell
    refine ⟨b, rfl, hb.2, hb.1, hcell, by simp [World.frozen?, q2], e3, by omega, fun v => ?_⟩
    have := OwnN.set h hx (y := v) (j := 0) (v := .int .u32 (v : Int)) (by decide) rfl
    rw [show j * u32K.k + 0 = j by show j * 1 + 0 = j; omega] at this
    exact this
theorem wrap_few {q c : Nat} (h : q < c) (hc : c ≤ 540) : IntKind.i64.wrap (((q + 1 : Nat) : Int) - 1) = (q : Int) ∧ wrap64 (q : Int) = (q : Int) ∧ (0 : Int) < (q : Int) + 1 ∧ (q : Int) < (c : Int) :=
  ⟨by rw [IntKind.wrap_i64]; omega, by rw [wrap64]; omega, by omega, by omega⟩
theorem wrap_prev {q q1 c : Nat} (e : q = q1 + 1) (h : q < c) (hc : c ≤ 540) : IntKind.i64.wrap ((q : Int) - 1) = (q1 : Int) ∧ (0 : Int) < (q : Int) ∧ (q1 : Int) < (c : Int) :=
  ⟨by rw [IntKind.wrap_i64]; omega, by omega, by omega⟩
theorem find_at (l : List ByteArray) (hl : l.length * 16 ≤ 140737488355328) (hn : l.Nodup) (s : ByteArray) (i : Nat) (hi : l[i]? = some s) (v : Value) (w : World) (h : OldR Value.string w.heap.size w v l) :
    Calls Try.prog 12 #[v, .string s] w (fun e W => e = .returned (.int .i64 (i : Int)) ∧ Below w.heap.size w W) := by
  refine (find_calls l hl s v w h).mono ?_
  rintro e W ⟨z, rfl, hz, hB⟩
  rcases hz with ⟨rfl, hno⟩ | ⟨j, rfl, hj⟩
  · exact absurd (List.mem_of_getElem? hi) hno
  · obtain ⟨h1, h2⟩ := List.getElem?_eq_some_iff.1 hi
    obtain ⟨h3, h4⟩ := List.getElem?_eq_some_iff.1 hj
    obtain rfl : j = i := (List.getElem_inj hn).1 (h4.trans h2.symm)
    exact ⟨rfl, hB⟩
/-- What holds as the sum of a record is reckoned. -/
structure InvR (w : World) (a : List Pr) (l : List Rc) (r : Rc) (cn ln qb : Nat) (kv cv lv : Value) (wO wx : World) : Prop where
  cn : cn = (keysL (takenN (-1) l)).length
  came : OwnS wx w.heap.size cv (keysL (takenN (-1) l))
  recs : OwnRc wx w.heap.size lv (l ++ [r])
  low : Below w.heap.size w wx
  keeps : KeepsX exS 0 wO wx
  box : wx.heap[qb]? = some (.cells #[.int .i64 r.producer, .int .i64 r.seq, .int .i64 r.part, .string r.key, .int .u32 (r.val : Nat)] 39)
  apart : ∀ g, kv.ownBlock = some g → cv.ownBlock ≠ some g
  ln : ln = l.length
theorem keysL_le (l : List Pr) : (keysL l).length ≤ l.length := by
  have : ∀ l : List Pr, (keysL l.reverse).length ≤ l.length := fun l => by
    induction l with
    | nil => simp [keysL]
    | cons p r ih =>
      rw [List.reverse_cons, keysL_snoc]
      split
      · simp; omega
      · simp at ih ⊢; omega
  have := this l.reverse
  rwa [List.reverse_reverse, List.length_reverse] at this
end Go.Proofs.Ytmfndimejnbgkaa.Model
