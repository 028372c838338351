/-
  DiskKeeps' disk as data; numbers of the call's own; five slices that share no block.
-/
import Derived.Test.YtlmohcmnoddncaaDiskDx
import Derived.Test.YtlmohcmnoddncaaDiskLawKnown
import Derived.Test.YtlmohcmnoddncaaDiskSyncedMath
import Derived.Test.YtlmohcmnoddncaaApartTwo
namespace Go.Proofs.Ytlmohcmnoddncaa.Disk
open Go Go.RowKit Go.Lib Go.Proofs.Ytlmohcmnoddncaa.Law

theorem right_a : rightB nameA = true := by decide +kernel
structure KeepsD (ds : List Nat) (picks : List Int) (D1 D2 D3 D4 : DS) : Prop where
  w1 : (DS.fresh 1048576).writeN nameA 0 ds.length = 0
  e1 : (DS.fresh 1048576).write nameA 0 (str ds) = D1
  now1 : D1.now nameA = some ds
  s1 : D1.syncN nameA = 0
  e2 : D1.sync nameA = D2
  safe2 : D2.safe nameA = some ds
  e3 : D2.write nameA 0 (str [122]) = D3
  e4 : D3.crash picks = D4
  m1 : D1.made ≤ 4294967296
  m2 : D2.made ≤ 4294967296
  m3 : D3.made ≤ 4294967296
  now4 : ∃ f, D4.now nameA = some f ∧ ds.length ≤ f.length ∧ f.drop 1 = ds.drop 1 ∧ f.length ≤ 524289

theorem keepsD (ds : List Nat) (hn : ds.length ≤ 524288) (hb : ∀ x ∈ ds, x < 256) (picks : List Int) : ∃ D1 D2 D3 D4, KeepsD ds picks D1 D2 D3 D4 := by
  have hr := right_a
  have w1 : (DS.fresh 1048576).writeN nameA 0 ds.length = 0 := by
    unfold DS.writeN
    rw [show (DS.fresh 1048576).fails = false from rfl, refN_ok hr, if_neg (by simp), if_neg (by simp [DS.fresh, szO]), if_neg (by simp only [DS.fresh, szO]; omega)]
  have e1 : (DS.fresh 1048576).write nameA 0 (str ds) = (DS.fresh 1048576).wrote nameA 0 (str ds) := by
    unfold DS.write
    rw [str_size, if_pos w1]; rfl
  have now1 : ((DS.fresh 1048576).wrote nameA 0 (str ds)).now nameA = some ds := by
    rw [show ((DS.fresh 1048576).wrote nameA 0 (str ds)).now = upd (DS.fresh 1048576).now nameA (some (overL (((DS.fresh 1048576).now nameA).getD []) 0 (bytesS (str ds)))) from rfl, upd_same, bytesS_str hb]
    simp [overL, DS.fresh]
  have s1 : ((DS.fresh 1048576).wrote nameA 0 (str ds)).syncN nameA = 0 := by
    unfold DS.syncN
    have hin : nameA ∈ ((DS.fresh 1048576).wrote nameA 0 (str ds)).names := by
      show nameA ∈ (if nameA ∈ (DS.fresh 1048576).names then (DS.fresh 1048576).names else (DS.fresh 1048576).names ++ [nameA])
      rw [if_neg (by simp [DS.fresh])]
      simp
    rw [show ((DS.fresh 1048576).wrote nameA 0 (str ds)).fails = false from rfl, refN_ok hr, if_neg (by simp), if_pos hin]
  have e2 : ((DS.fresh 1048576).wrote nameA 0 (str ds)).sync nameA = ((DS.fresh 1048576).wrote nameA 0 (str ds)).syncD nameA := by
    unfold DS.sync
    rw [if_pos s1]
  have safe2 : (((DS.fresh 1048576).wrote nameA 0 (str ds)).syncD nameA).safe nameA = some ds := by
    rw [show (((DS.fresh 1048576).wrote nameA 0 (str ds)).syncD nameA).safe = upd (DS.fresh 1048576).safe nameA (((DS.fresh 1048576).wrote nameA 0 (str ds)).now nameA) from rfl, upd_same, now1]
  have chs2 : (((DS.fresh 1048576).wrote nameA 0 (str ds)).syncD nameA).chs = [] := by
    show others nameA ((DS.fresh 1048576).chs ++ [(nameA, _)]) = []
    simp [others, DS.fresh]
  obtain ⟨D2, hD2⟩ : ∃ D2, ((DS.fresh 1048576).wrote nameA 0 (str ds)).syncD nameA = D2 := ⟨_, rfl⟩
  have m2 : D2.made = 1 := by rw [← hD2]; rfl
  rw [hD2] at e2 safe2 chs2
  have hcr : ∀ D3 : DS, (D3.crash picks).now nameA = crashTo picks D3.chs D3.safe D3.chs.length nameA := fun _ => rfl
  refine ⟨_, D2, _, _, w1, e1, now1, s1, e2, safe2, rfl, rfl, by show 0 + 1 ≤ _; omega, by omega, ?_, ?_⟩
  · unfold DS.write
    split
    · show D2.made + 1 ≤ _; omega
    · omega
  · unfold DS.write
    by_cases h3 : D2.writeN nameA 0 (str [122]).size = 0
    · rw [if_pos h3]
      rw [hcr, show (D2.wrote nameA (0 : Int).toNat (str [122])).chs = [(nameA, (⟨D2.made, 0, 0, str [122]⟩ : Chg))] by show D2.chs ++ [_] = _; rw [chs2]; rfl]
      rw [show crashTo picks [(nameA, (⟨D2.made, 0, 0, str [122]⟩ : Chg))] (D2.wrote nameA (0 : Int).toNat (str [122])).safe [(nameA, (⟨D2.made, 0, 0, str [122]⟩ : Chg))].length = upd D2.safe nameA (behindD ⟨D2.made, 0, 0, str [122]⟩ (picks.getD 0 0) (D2.safe nameA)) from rfl]
      rw [upd_same, safe2]
      unfold behindD
      rw [if_pos rfl]
      by_cases hp : 0 < min (picks.getD 0 0) ((str [122]).size : Int) ∧ 0 ≤ szO (some ds)
      · rw [if_pos hp]
        have hs : (str [122]).size = 1 := by rw [str_size]; rfl
        have hm : (min (picks.getD 0 0) ((str [122]).size : Int)).toNat = 1 := by rw [hs] at hp ⊢; omega
        refine ⟨_, rfl, ?_⟩
        rw [hm, bytesS_str (by decide)]
        simp only [overL, Option.getD_some, List.take_zero, List.nil_append, List.take_succ_cons, List.length_cons, List.length_nil, Nat.zero_add, List.cons_append, List.drop_succ_cons, List.drop_zero]
        refine ⟨?_, trivial, ?_⟩
        · rw [List.length_drop]; omega
        · rw [List.length_drop]; omega
      · rw [if_neg hp]
        exact ⟨ds, rfl, Nat.le_refl _, rfl, by omega⟩
    · rw [if_neg h3]
      rw [hcr, chs2]
      rw [show crashTo picks ([] : List (ByteArray × Chg)) D2.safe ([] : List (ByteArray × Chg)).length = D2.safe from rfl]
      rw [safe2]
      exact ⟨ds, rfl, Nat.le_refl _, rfl, by omega⟩

/-- Numbers that a call has made. -/
def OwnI (W : World) (base : Nat) (v : Value) (zs : List Int) : Prop := W.ownsRow base 3 1 v zs.length (zs.map fun z => Value.int .i64 z)
theorem info_int : (Try.prog.info? 3).map (fun i => (i.zero, i.size, i.bytes)) = some (some (.int .i64 0), 1, 8) := by kernel_rfl
theorem OwnI.own {W : World} {base : Nat} {v : Value} {zs : List Int} (h : OwnI W base v zs) : ∀ g, v.ownBlock = some g → base ≤ g ∧ g < W.heap.size := fun g hg => World.ownsRow.lt h g hg
theorem OwnI.keep {W W' : World} {base : Nat} {v : Value} {zs : List Int} (h : OwnI W base v zs) (hb : ∀ g, v.ownBlock = some g → W'.heap[g]? = W.heap[g]?) : OwnI W' base v zs := by
  refine ⟨h.1, ?_⟩
  rcases h.2 with h0 | ⟨g, cap, cur, rfl, h1, h2, h3⟩
  · exact .inl h0
  · exact .inr ⟨g, cap, cur, rfl, h1, (hb g rfl).trans h2, h3⟩
theorem ownB_keepB {W W' : World} {base : Nat} {e : TypeId} {v : Value} {bs : List Nat} (h : OwnB W base e v bs) (hb : ∀ g, v.ownBlock = some g → W'.heap[g]? = W.heap[g]?) : OwnB W' base e v bs := by
  refine ⟨⟨h.1.1, ?_⟩, h.2⟩
  rcases h.1.2 with h0 | ⟨g, cap, cur, rfl, h1, h2, h3⟩
  · exact .inl h0
  · exact .inr ⟨g, cap, cur, rfl, h1, (hb g rfl).trans h2, h3⟩
theorem OwnI.form {W : World} {base : Nat} {v : Value} {zs : List Int} (h : OwnI W base v zs) : ∃ A c, v = .slice A zs.length c := by
  rcases h.2 with ⟨rfl, h0⟩ | ⟨g, cap, cur, rfl, _⟩
  · exact ⟨none, 0, by rw [h0]⟩
  · exact ⟨_, _, rfl⟩
theorem OwnI.ints {W : World} {base : Nat} {v : Value} {zs : List Int} {Q : Nat → Prop} (h : OwnI W base v zs) (hQ : ∀ g, v.ownBlock = some g → Q g) : Ints Q W v zs := by
  have hcell := fun (g : Nat) (hg : v.ownBlock = some g) => h.cells hg
  rcases h.2 with ⟨rfl, h0⟩ | ⟨g, cap, cur, rfl, _, _, hn, _⟩
  · exact ⟨none, 0, by rw [h0], by omega, fun hp => by omega⟩
  · refine ⟨_, cap, rfl, hn, fun _ => ⟨g, 0, rfl, hQ g rfl, fun j hj => ?_⟩⟩
    have := hcell g rfl j (.int .i64 (zs.getD j 0)) (by rw [List.getElem?_map, List.getD, List.getElem?_eq_getElem hj]; rfl)
    rw [Addr.add_lit] at this
    exact this

/-- append([]int{}, ..): the numbers anew. -/
theorem run_append_ints {W : World} {Q : Nat → Prop} {base : Nat} {v sv : Value} {zs : List Int} (ty : TypeId) (hown : OwnI W base v []) (hI : Ints Q W sv zs) (hnil : ∀ c, sv = .slice none zs.length c → c = 0) (hr : zs.length * 8 ≤ 140737488355328) (hbase : base ≤ W.heap.size) :
    ∃ v' W', (Builtin.append_ #[35, 35] ty #[v, sv]).run Try.prog W = .ok v' W' ∧ OwnI W' base v' zs ∧ W.grownBy W' v.ownBlock := by
  obtain ⟨i0, hi, hz0, hz1, hz2⟩ := info_parts info_int
  obtain ⟨A, cap, rfl, hc, hcell⟩ := hI
  cases A with
  | none =>
    have hz : zs = [] := by
      cases zs with
      | nil => rfl
      | cons z r => obtain ⟨b, off, he, _⟩ := hcell (by simp); cases he
    subst hz
    obtain rfl := hnil cap rfl
    exact ⟨v, W, run_append_owned_none (P := Try.prog) (w := W) base 35 ty 3 i0 1 Try.underlying35 hi v 0 [] hown, hown, ⟨rfl, rfl, rfl, Nat.le_refl _, fun _ _ _ => rfl⟩⟩
  | some a =>
    obtain ⟨v', W', hrun, h2, h3, _, _⟩ := run_append_own_at (P := Try.prog) W base 35 ty 3 i0 _ 1 8 Try.underlying35 hi hz0 hz1 hz2 rfl (by decide) v 0 [] hown a zs.length cap (zs.map fun z => Value.int .i64 z) (by simp)
      (fun j u hu => by
        have hj : j < zs.length := by have := (List.getElem?_eq_some_iff.1 hu).1; simpa using this
        obtain ⟨b, off, he, _, h4⟩ := hcell (by omega)
        obtain rfl : a = ⟨b, off, none⟩ := by simpa using he
        rw [Addr.add_lit, h4 j hj, ← hu, List.getElem?_map, List.getD, List.getElem?_eq_getElem hj]
        rfl)
      (fun u hu => by obtain ⟨z, _, rfl⟩ := List.mem_map.1 hu; rfl) (by simp only [maxLen]; omega) (by simpa using hr) hbase
    refine ⟨v', W', hrun, ?_, h3⟩
    show W'.ownsRow _ _ _ _ _ _
    simpa using h2

end Go.Proofs.Ytlmohcmnoddncaa.Disk
