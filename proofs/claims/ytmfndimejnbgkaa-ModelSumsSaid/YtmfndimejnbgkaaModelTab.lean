/-
  Tables: maps from texts to numbers; contracts of the model's byKey and rising, of maps.Copy, of the sorted keys.
-/
import Derived.Test.YtmfndimejnbgkaaModelSeq
import Derived.Test.YtmfndimejnbgkaaMapOps
namespace Go.Proofs.Ytmfndimejnbgkaa.Model
open Go Go.RowKit Go.Lib Go.Sort Go.Shelf Go.Maps Go.Proofs.Ytmfndimejnbgkaa.Law Go.Proofs.Ytmfndimejnbgkaa.Graph Go.Proofs.Ytmfndimejnbgkaa.Fold

noncomputable abbrev sK : KeyK Try.prog 9 ByteArray := strK Try.underlying9
/-- Block b is a map of at most n entries that leads each text where F says. -/
def MapU (W : World) (b n : Nat) (F : ByteArray → Option Nat) : Prop := MapV sK W b n (fun k => (F k).map u32V)
theorem MapU.lt {W : World} {b n : Nat} {F : ByteArray → Option Nat} (h : MapU W b n F) : b < W.heap.size := MapV.lt h
theorem MapU.at {W W' : World} {b n : Nat} {F : ByteArray → Option Nat} (h : MapU W b n F) (hb : W'.heap[b]? = W.heap[b]?) : MapU W' b n F := MapV.at h hb
theorem MapU.below {W W' : World} {b n : Nat} {F : ByteArray → Option Nat} (h : MapU W b n F) (hB : Below W.heap.size W W') : MapU W' b n F := MapV.below h hB
theorem MapU.made (W : World) : MapU (W.alloc (.map #[] 0)) W.heap.size 0 (fun _ => none) := MapV.made sK W
theorem zero_u32 (W : World) : (zeroValue 25).run Try.prog W = .ok (.int .u32 0) W := by kernel_rfl
theorem MapU.store {W : World} {b n : Nat} {F : ByteArray → Option Nat} (h : MapU W b n F) (hn : n ≤ 5864062014805000) {s : ByteArray} (hs : Short s) (v : Nat) :
    ∃ w', (Instr.mapUpdate 130 (.map (some b)) (.string s) (.int .u32 (v : Nat))).run Try.prog W = .ok () w' ∧ MapU w' b (n + 1) (fun x => if x = s then some v else F x) ∧ W.grownBy w' (some b) ∧ w'.heap.size = W.heap.size := by
  obtain ⟨w', h1, h2, h3, h4⟩ := MapV.store h Try.underlying130 (by simp only [maxLen]; omega) (s := s) hs (u32V v)
  refine ⟨w', h1, MapV.same h2 fun x _ => ?_, h3, h4⟩
  by_cases hx : x = s
  · simp [hx]
  · simp [hx]
theorem MapU.lookOk {W : World} {b n : Nat} {F : ByteArray → Option Nat} (h : MapU W b n F) {s : ByteArray} (hs : Short s) :
    (Instr.lookup 130 (.map (some b)) (.string s) true).run Try.prog W = .ok (.tuple #[.int .u32 ((F s).getD 0 : Nat), .bool (F s).isSome]) W := by
  have h1 := MapV.lookOk h Try.underlying130 (zero_u32 W) (s := s) hs
  have e1 : ((F s).map u32V).getD (.int .u32 0) = .int .u32 (((F s).getD 0 : Nat) : Int) := by cases F s <;> rfl
  have e2 : ((F s).map u32V).isSome = (F s).isSome := by cases F s <;> rfl
  rw [e1, e2] at h1
  exact h1
theorem MapU.look {W : World} {b n : Nat} {F : ByteArray → Option Nat} (h : MapU W b n F) {s : ByteArray} (hs : Short s) :
    (Instr.lookup 130 (.map (some b)) (.string s) false).run Try.prog W = .ok (.int .u32 ((F s).getD 0 : Nat)) W := by
  have h1 := MapV.look h Try.underlying130 (zero_u32 W) (s := s) hs
  have e1 : ((F s).map u32V).getD (.int .u32 0) = .int .u32 (((F s).getD 0 : Nat) : Int) := by cases F s <;> rfl
  rw [e1] at h1
  exact h1
/-- A new map. -/
def RetM (F : ByteArray → Option Nat) (n : Nat) (w : World) (e : Ending) (W : World) : Prop := ∃ b, e = .returned (.map (some b)) ∧ w.heap.size ≤ b ∧ MapU W b n F ∧ Below w.heap.size w W

theorem lastF_take {l : List Pr} {k : Nat} {p : Pr} (h : l[k]? = some p) : lastF (l.take (k + 1)) = fun x => if x = p.key then some p.val else lastF (l.take k) x := by
  funext x
  rw [Graph.take_snoc h, lastF_snoc]

set_option maxRecDepth 100000 in
set_option maxHeartbeats 4000000 in
theorem byKey_calls (l : List Pr) (hwf : wfP l) (hlen : l.length * 24 ≤ 140737488355328) (v : Value) (w : World) (h : OldP w.heap.size w v l) :
    Calls Try.prog 74 #[v] w (RetM (lastF l) l.length w) := by
  obtain ⟨A, cap, rfl, _⟩ := h.form
  obtain ⟨n, hN⟩ : ∃ n, l.length = n := ⟨_, rfl⟩
  rw [hN] at h hlen ⊢
  obtain ⟨q, hq⟩ : ∃ q, w.heap.size = q := ⟨_, rfl⟩
  obtain ⟨W1, hW1⟩ : ∃ W1, w.alloc (.map #[] 0) = W1 := ⟨_, rfl⟩
  have hB1 : Below q w W1 := by rw [← hW1, ← hq]; exact alloc_low _ _
  have hm1 : MapU W1 q 0 (fun _ => none) := by rw [← hW1, ← hq]; exact MapU.made w
  have hs1 : q + 1 ≤ W1.heap.size := by rw [← hW1, ← hq]; simp
  have HW := Lib.hid hW1
  have HB1 := Lib.hid hB1
  have HM1 := Lib.hid hm1
  have HQ := Lib.hid hq
  have HN := Lib.hid hN
  have HI := Lib.hid h
  have HWF := Lib.hid hwf
  have hnn : n ≤ 5864062014805 := by omega
  have hmm := @run_makeMap Try.prog
  clear hW1 hB1 hm1 hN h hwf hlen hq
  go_enter Try.func74, Try.ntmps74
  go_wp2_with fail
  rw [HW.out, HQ.out]
  go_loopw [9] (fun i wr => ∃ k : Nat, i = .int .i64 k ∧ k ≤ n ∧ Hid (MapU wr q k (lastF (l.take k)) ∧ Below q w wr ∧ q + 1 ≤ wr.heap.size)) (fun i _ => n - (intOf i).toNat)
  case atStart => exact ⟨0, rfl, Nat.zero_le _, Lib.hid ⟨by rw [List.take_zero]; exact HM1.out, HB1.out, hs1⟩⟩
  case round =>
    obtain ⟨k, rfl, hk, HO⟩ := hrel
    by_cases hlt : k < n
    · obtain ⟨p, hp⟩ : ∃ p, l[k]? = some p := ⟨_, List.getElem?_eq_getElem (by rw [HN.out]; exact hlt)⟩
      obtain ⟨hM, hB, hs⟩ := HO.out
      obtain ⟨b, off, rfl, hb, hc⟩ := (TwoAt.low (HQ.out ▸ hB) HI.out).at (by omega)
      obtain ⟨c0, c1⟩ := hc k p hp
      obtain ⟨hps, hpv⟩ := HWF.out p (List.mem_of_getElem? hp)
      obtain ⟨W2, hW2⟩ : ∃ W2, wr.alloc (prObj p) = W2 := ⟨_, rfl⟩
      have hB2 : Below wr.heap.size wr W2 := by rw [← hW2]; exact alloc_low _ _
      have hP2 : W2.heap[wr.heap.size]? = some (prObj p) := by rw [← hW2]; exact heap_alloc_new wr _
      obtain ⟨e0, e1⟩ := boxP hP2
      obtain ⟨W3, R3, M3, G3, s3⟩ := (hM.below hB2).store (by omega) hps p.val
      rw [← lastF_take hp] at M3
      have hB3 : Below q w W3 := (hB.trans (hB2.mono (by omega))).grown G3 (by have := hB2.size; omega) (fun j hj => by cases hj; exact Nat.le_refl _)
      have HK1 : Hid (k + 1 ≤ n) := Lib.hid hlt
      have HW2 := Lib.hid hW2
      have HR3 := Lib.hid R3
      have HF : Hid (MapU W3 q (k + 1) (lastF (l.take (k + 1))) ∧ Below q w W3 ∧ q + 1 ≤ W3.heap.size) := Lib.hid ⟨M3, hB3, by have := hB2.size; omega⟩
      clear hM hB hc hp hps hpv hW2 hB2 hP2 R3 M3 G3 s3 hB3 HO hb
      go_upto_region 5 with fail
      rw [HW2.out]
      go_wp2_with (at_mapUpdate; refine wpList_mapUpdate_ran rfl _ _ _ _ rfl rfl rfl rfl HR3.out ?_)
      go_roundw
      case rel => exact ⟨k + 1, by go_num, HK1.out, HF⟩
      case measure => have h := HK1.out; simp [intOf]; omega
    · obtain rfl : k = n := by omega
      obtain ⟨hM, hB, hs⟩ := HO.out
      have hfin : RetM (lastF l) k w (.returned (.map (some q))) wr := ⟨q, rfl, by rw [HQ.out]; exact Nat.le_refl _, (by rw [List.take_of_length_le (by rw [HN.out]; exact Nat.le_refl _)] at hM; exact hM), by rw [HQ.out]; exact hB⟩
      have HF := Lib.hid hfin
      clear hM hB hfin HO
      go_wp2_with fail
      go_ret
      exact HF.out

/-- The sort of texts, inside the fence that asks nothing. -/
theorem sortsS (m : Nat) : AnyZ.SortsIn Try.prog Try.sortedS_ren Fence.wide m :=
  ⟨fun blk off cap ss W hH hblk hsz => callsIn_wide.2 (AnyM.slices_Sort_string Try.sortS blk off cap ss W hH hblk hsz),
   fun p cap W => callsIn_wide.2 (AnyM.slices_Sort_string_none Try.sortS p cap W)⟩
theorem keysM_calls (mb : Nat) (W : World) : Calls Try.prog 121 #[.map (some mb)] W fun e w' => e = .returned (.func (.func 143) #[] #[.pointer (some ⟨W.heap.size, 0, none⟩)]) ∧ w' = W.alloc (.cells #[.map (some mb)] 130) :=
  callsIn_wide.1 (AnyZ.keys_in Try.keysM Fence.wide 5 trivial rfl (some mb) W)
theorem keys_perm {W : World} {b n : Nat} {F : ByteArray → Option Nat} {D : DataW Value} (h : W.ownsMap Try.prog 9 readV b n D) (hl : LeadsV sK D fun k => (F k).map u32V) {ks : List ByteArray} (hn : ks.Nodup) (hs : ∀ s ∈ ks, Short s) (hd : ∀ s, Short s → ((F s).isSome ↔ s ∈ ks)) :
    (ks.map fun s => s.data.toList).Perm (strKeys D) := by
  obtain ⟨es, hD, hpw, _⟩ := h.entries (string_keyed Try.underlying9)
  obtain ⟨es', hD', hko⟩ := h.keysOf
  obtain rfl : es = es' := by rw [hD] at hD'; simpa using hD'
  subst hD
  have hk : ∀ p ∈ es, ∃ x, p.1 = .string x := fun p hp => by obtain ⟨v, hv⟩ := hko p hp; obtain ⟨x, _, hx, _⟩ := Maps.keyOf_str Try.underlying9 hv; exact ⟨x, hx⟩
  refine perm_strKeys hpw hk ?_ fun x => ?_
  · rw [List.Nodup, List.pairwise_map]
    exact hn.imp fun hne e => hne (by
      rename_i a b
      have : a.data = b.data := by apply Array.ext'; exact e
      cases a; cases b; simp only at this; rw [this])
  · have key : ∀ s : ByteArray, Short s → (has (.map es) (.string s.data.toList) = true ↔ s ∈ ks) := fun s hsh => by
      have h1 := (hl s hsh).2
      have h2 : has (.map es) (.string s.data.toList) = (F s).isSome := by refine Eq.trans h1 ?_; show ((F s).map u32V).isSome = (F s).isSome; cases F s <;> rfl
      rw [h2]; exact hd s hsh
    rw [List.mem_map]
    constructor
    · rintro ⟨s, hs', rfl⟩
      exact (key s (hs s hs')).2 hs'
    · intro hx
      have hx0 := hx
      rw [has_eq, List.any_eq_true] at hx
      obtain ⟨p, hp, hpk⟩ := hx
      obtain ⟨v, hv⟩ := hko p hp
      obtain ⟨y, _, hy, hyl⟩ := Maps.keyOf_str Try.underlying9 hv
      obtain rfl : y = x := by rw [hy] at hpk; simpa [Lit.sameKey] using hpk
      have hsh : Short (⟨y.toArray⟩ : ByteArray) := by show y.toArray.size ≤ maxLen; simpa using hyl
      exact ⟨⟨y.toArray⟩, (key ⟨y.toArray⟩ hsh).1 (by simpa using hx0), by simp⟩
/-- slices.Sorted at a map's keys. -/
theorem sorted_calls {w : World} {b n : Nat} {F : ByteArray → Option Nat} (hm : MapU w b n F) {ks : List ByteArray} (hn : ks.Nodup) (hs : ∀ s ∈ ks, Short s) (hd : ∀ s, Short s → ((F s).isSome ↔ s ∈ ks)) (hlen : n * 16 ≤ 140737488355328) :
    Calls Try.prog 120 #[.func (.func 143) #[] #[.pointer (some ⟨w.heap.size, 0, none⟩)]] (w.alloc (.cells #[.map (some b)] 130)) fun e w' => ∃ v, e = .returned v ∧ OwnRow Value.string 9 w' (w.heap.size + 1) v (sortN ks) ∧ Below (w.heap.size + 1) (w.alloc (.cells #[.map (some b)] 130)) w' := by
  obtain ⟨D, hown, hl⟩ := hm
  have hbl := hown.lt
  have hp := keys_perm hown hl hn hs hd
  have hseq : SeqGives Fence.wide 2 Try.prog 143 #[.pointer (some ⟨w.heap.size, 0, none⟩)] encStr (fun ss => ss.Perm (strKeys D)) (Maps.size D) (w.alloc (.cells #[.map (some b)] 130)) :=
    AnyZ.keys_gives (ρ := Try.keysM_ren) { Try.keysM with } Fence.wide _ trivial rfl (by omega) w.heap.size b n D _ (by simp) (by simp) (by
      obtain ⟨es, clock, hb, Ft, hs, hD⟩ := hown
      exact ⟨es, clock, (Below.heap_alloc _ _ b hbl).trans hb, Ft, hs, hD⟩)
  have hsz := hown.size_le
  have h := callsIn_wide.1 (AnyZ.sorted_in Try.sortedS Fence.wide 5 trivial trivial trivial trivial rfl (by omega) (sortsS _) (enters_of Try.func142 (by kernel_rfl) rfl) 143 #[.pointer (some ⟨w.heap.size, 0, none⟩)] trivial (enters_of Try.func143 (by kernel_rfl) rfl) _ (Maps.size D) (by simp only [maxLen]; omega) (by omega) _ hseq)
  refine h.mono ?_
  rintro e w' ⟨v, ss, rfl, hS, hrow, _, hb⟩
  rw [World.size_alloc] at hrow hb
  refine ⟨v, rfl, ?_, hb⟩
  have e1 : ss.mergeSort leB = (ks.map fun s => s.data.toList).mergeSort leB := mergeSort_of_perm (hS.trans hp.symm)
  have e2 : (sortN ks).map Value.string = (ss.mergeSort fun x y => decide (x ≤ y)).map encStr := by
    unfold sortN
    rw [List.map_map, show (ss.mergeSort fun x y => decide (x ≤ y)) = _ from e1]
    rfl
  have e3 : (sortN ks).length = ss.length := by
    have := congrArg List.length e2
    simpa [List.length_mergeSort] using this
  unfold OwnRow
  rw [e2, e3]
  exact hrow

end Go.Proofs.Ytmfndimejnbgkaa.Model
