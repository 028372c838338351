/-
  What every statement 'the law returns true and its arguments read as they did' needs beside its walk: the post out of 'true, and nothing that lay has turned'; how a slice of bytes that came in is opened. Of whatever program.
-/
import Derived.Below
import Derived.Carry
import Derived.ChangeSame
import Derived.WalkKit
import Derived.ProofKit
import Derived.OpenShut
import Derived.Deep.DeepHandedRow
import Derived.Lib.LaidTab
import Derived.Maps.AppendAt
import Derived.Laws.OwnMore
namespace Go.Proofs.Ytmfndimejnbgkaa.Law
open Go Go.ChangeShapes Go.WideShapes Go.ChangeAt Go.RowKit

section
variable {H : Type} {enc : TypeId × Value → H} {P : Program}

theorem trodAll_stays (hl : laidOutB P = true) {W W' : World} {sp : Nat → Bool} : ∀ {ts : List TypeId} {vs : List Value} {ds : List (DataW H)} {ps : List MemPlace},
    (ts.all fun t => P.readableRec t && decide (t < P.types.size)) = true → DataW.TrodAll enc P W 0 (fun _ => true) true ts vs ds ps →
    (∀ x ∈ ps, W.sameAt W' x) → (∀ x ∈ ps, sp x.block = true) → DataW.TrodAll enc P W' 0 sp true ts vs ds ps
  | [], [], [], _, _, h, _, _ => h
  | [], [], _ :: _, _, _, h, _, _ => h.elim
  | [], _ :: _, _, _, _, h, _, _ => h.elim
  | _ :: _, [], _, _, _, h, _, _ => h.elim
  | _ :: _, _ :: _, [], _, _, h, _, _ => h.elim
  | t :: ts, v :: vs, d :: ds, ps, ht, ⟨p, q, h1, h2, e⟩, hs, hsp => by
    subst e
    simp only [List.all_cons, Bool.and_eq_true, decide_eq_true_eq] at ht
    exact ⟨p, q, WideElems.Trod_stays hl ht.1.1 ht.1.2 h1 (fun x hx => hs x (List.mem_append_left _ hx)) (fun x hx => hsp x (List.mem_append_left _ hx)),
      trodAll_stays hl ht.2 h2 (fun x hx => hs x (List.mem_append_right _ hx)) (fun x hx => hsp x (List.mem_append_right _ hx)), rfl⟩

/-- What a law that returned true owes, where below the old heap nothing has turned. -/
theorem law_post (hl : laidOutB P = true) {f : Func} {s : ChangeSpec} {apart fresh handsOn again : Bool} {W W' : World} {args : Array Value} {ds gs : List (DataW H)} {before : List MemPlace} {tb : TypeId}
    (hread : (f.params.toList.all fun t => P.readableRec t && decide (t < P.types.size)) = true) (hrt : f.resultTypes = #[tb]) (hb : P.underlying tb = some .bool) (hvs : s.vars = [])
    (hW : DataW.Whole enc P f.params.toList s.vars apart W args.toList ds gs before)
    (hfn : s.fn H (ds ++ gs) = { results := [.lit (.bool true)], args := ds }) (hB : Below W.heap.size W W') :
    s.post enc P f apart fresh handsOn again W args (.bool true) W' := by
  have hW0 := hW
  obtain ⟨p, q, hA, hV, rfl, hz, hn⟩ := hW
  rw [hvs] at hV
  obtain ⟨rfl, rfl⟩ := trodVars_none hV
  have hlt : ∀ x ∈ p ++ ([] : List MemPlace), x.block < W.heap.size := fun x hx => hW0.lt x hx
  have hold : ∀ x ∈ p ++ ([] : List MemPlace), (fun b => decide (b < W.heap.size)) x.block = true := fun x hx => by simpa using hlt x hx
  have hres : ∀ (b : Nat) (sp : Nat → Bool) (hd : Bool), DataW.TrodAll enc P W' b sp hd f.resultTypes.toList ((Value.bool true).resultList f.resultTypes.size) (s.fn H (ds ++ [])).results [] := by
    intro b sp hd
    rw [hfn, hrt]
    exact trodAll_cons_mk (shut_bool hb true) trodAll_mk0
  have hargs : ∀ sp : Nat → Bool, (∀ x ∈ p ++ ([] : List MemPlace), sp x.block = true) → DataW.TrodAll enc P W' 0 sp true f.params.toList args.toList (s.fn H (ds ++ [])).args p := by
    intro sp hsp
    rw [hfn]
    exact trodAll_stays hl hread hA (fun x hx => hB.same (hlt x (by simpa using hx))) (fun x hx => hsp x (by simpa using hx))
  have hvars : ∀ sp : Nat → Bool, (∀ x ∈ p ++ ([] : List MemPlace), sp x.block = true) → DataW.TrodVars enc P W' sp s.vars (s.fn H (ds ++ [])).vars [] := by
    intro sp _
    rw [hfn, hvs]; rfl
  refine ⟨ds, [], p ++ [], [], p, [], hW0, hres _ _ _, hargs _ hold, hvars _ hold, World.keptBut_mono (fun x hx => ⟨hx, ?_⟩) (hB.frame (· ∈ p ++ [])), fun _ => ?_⟩
  · exact Or.inr (by simpa using hx)
  · refine ⟨ok_one hrt rfl (okWide_bool_mk hb true), _, _, ([] ++ p) ++ [], ⟨[] ++ p, [], trodAll_append (hargs _ (fun _ _ => rfl)) (hres _ _ _), hvars _ (fun _ _ => rfl), rfl, ?_, ?_⟩, ?_⟩
    · intro b off hp
      have hin : MemPlace.cell b off ∈ p ++ ([] : List MemPlace) := by simpa using hp
      rw [hB.frozen (hlt _ hin)]
      exact hz b off hin
    · intro ha
      have := hn ha
      simpa using this
    · intro x hx _
      simpa using hx

/-- The slice value reads as the bytes bs, in a block below n₀. -/
def Bytes (n₀ : Nat) (W : World) (sv : Value) (bs : List Nat) : Prop :=
  ∃ (A : Option Addr) (cap : Nat), sv = .slice A bs.length cap ∧ bs.length ≤ cap ∧ (A = none → cap = 0) ∧ (∀ x ∈ bs, x < 256) ∧
    (0 < bs.length → ∃ b off, A = some ⟨b, off, none⟩ ∧ b < n₀ ∧ ∀ j, j < bs.length → W.cell? ⟨b, off + j, none⟩ = some (.int .u8 (bs.getD j 0 : Nat)))

theorem Bytes.below {n₀ : Nat} {A B : World} (h : Below n₀ A B) {sv : Value} {bs : List Nat} : Bytes n₀ A sv bs → Bytes n₀ B sv bs
  | ⟨A', cap, e, e1, e2, hb, hc⟩ => ⟨A', cap, e, e1, e2, hb, fun hl => by
    obtain ⟨b, off, e1, h1, h2⟩ := hc hl
    exact ⟨b, off, e1, h1, fun j hj => (h.cell (p := ⟨b, off + j, none⟩) h1).trans (h2 j hj)⟩⟩
theorem Bytes.more {n₀ n₁ : Nat} {W : World} (hn : n₀ ≤ n₁) {sv : Value} {bs : List Nat} : Bytes n₀ W sv bs → Bytes n₁ W sv bs
  | ⟨A', cap, e, e1, e2, hb, hc⟩ => ⟨A', cap, e, e1, e2, hb, fun hl => by
    obtain ⟨b, off, e1, h1, h2⟩ := hc hl
    exact ⟨b, off, e1, by omega, h2⟩⟩
/-- .. carried into a world that has left all of the old heap as it lay. -/
theorem Bytes.on {A B : World} (h : Below A.heap.size A B) {sv : Value} {bs : List Nat} (hI : Bytes A.heap.size A sv bs) : Bytes B.heap.size B sv bs := (hI.below h).more h.size
theorem Bytes.form {n₀ : Nat} {W : World} {sv : Value} {bs : List Nat} : Bytes n₀ W sv bs → ∃ A cap, sv = .slice A bs.length cap
  | ⟨A', cap, e, _, _, _, _⟩ => ⟨A', cap, e⟩
theorem Bytes.lt {n₀ : Nat} {W : World} {sv : Value} {bs : List Nat} : Bytes n₀ W sv bs → ∀ x ∈ bs, x < 256
  | ⟨_, _, _, _, _, h, _⟩ => h
/-- A piece from the front. -/
theorem Bytes.front {n₀ : Nat} {W : World} {A : Option Addr} {len cap : Nat} {bs : List Nat} (k : Nat) (hk : k ≤ bs.length) (hI : Bytes n₀ W (.slice A len cap) bs) : Bytes n₀ W (.slice A k cap) (bs.take k) := by
  obtain ⟨A', cap', e, h1, h2, h3, h4⟩ := hI
  simp only [Value.slice.injEq] at e
  obtain ⟨rfl, rfl, rfl⟩ := e
  have hl : (bs.take k).length = k := by rw [List.length_take]; omega
  refine ⟨A, cap, by rw [hl], by omega, h2, fun x hx => h3 x (List.mem_of_mem_take hx), fun hp => ?_⟩
  obtain ⟨b, off, e1, h5, h6⟩ := h4 (by omega)
  refine ⟨b, off, e1, h5, fun j hj => ?_⟩
  rw [h6 j (by omega)]
  have : (bs.take k).getD j 0 = bs.getD j 0 := by
    rw [hl] at hj
    simp [List.getD, hj]
  rw [this]

theorem Bytes.one {W : World} {b : Nat} (x : Nat) (hx : x < 256) (hb : b < W.heap.size) (hc : W.cell? ⟨b, 0, none⟩ = some (.int .u8 (x : Nat))) : Bytes W.heap.size W (.slice (some ⟨b, 0, none⟩) 1 1) [x] :=
  ⟨_, 1, rfl, Nat.le_refl _, (fun h => by cases h), by simpa using hx, fun _ => ⟨b, 0, rfl, hb, fun j hj => by
    obtain rfl : j = 0 := by simp at hj; omega
    simpa using hc⟩⟩

/-- The bytes as values. -/
def vals (bs : List Nat) : List Value := bs.map fun x => Value.int .u8 ((x : Nat) : Int)
theorem vals_append (a b : List Nat) : vals (a ++ b) = vals a ++ vals b := by simp [vals]
theorem vals_length (a : List Nat) : (vals a).length = a.length := by simp [vals]
theorem vals_get (a : List Nat) (j : Nat) (h : j < a.length) : (vals a)[j]? = some (.int .u8 (a.getD j 0 : Nat)) := by simp [vals, List.getD, h]
theorem vals_one (a : List Nat) : ∀ u ∈ vals a, u.oneCell' = true := by
  intro u hu
  obtain ⟨x, _, rfl⟩ := List.mem_map.1 hu
  rfl

/-- A slice of bytes that the call itself has made. -/
def OwnB (W : World) (base : Nat) (e : TypeId) (sv : Value) (bs : List Nat) : Prop := W.ownsRow base e 1 sv bs.length (vals bs) ∧ ∀ x ∈ bs, x < 256

theorem OwnB.bytes {W : World} {base : Nat} {e : TypeId} {sv : Value} {bs : List Nat} (h : OwnB W base e sv bs) : Bytes W.heap.size W sv bs := by
  obtain ⟨h, h256⟩ := h
  have hcell := fun (g : Nat) (hg : sv.ownBlock = some g) => h.cells hg
  have hlt := h.lt
  rcases h.2 with ⟨rfl, hz⟩ | ⟨g, cap, cur, rfl, hb, hg, hn, hcm, hcs, ht⟩
  · exact ⟨none, 0, by rw [hz], by omega, fun _ => rfl, h256, fun hp => absurd hp (by omega)⟩
  · refine ⟨_, cap, rfl, hn, (fun h => by cases h), h256, fun _ => ⟨g, 0, rfl, (hlt g rfl).2, fun j hj => ?_⟩⟩
    have := hcell g rfl j _ (vals_get bs j hj)
    rw [Addr.add_lit] at this
    exact this

/-- append onto bytes of the call's own, whatever slice of bytes comes behind. -/
theorem run_append_bytes (w : World) {t e : TypeId} (ty : TypeId) {i : TypeInfo} {z : Value} (ht : P.underlying t = some (.slice e)) (hi : P.info? e = some i) (hz : i.zero = some z)
    (hsize : i.size = 1) (hby : i.bytes = 1) (hzs : z.cells.size = 1) {base n₁ : Nat} {v sv : Value} {xs bs : List Nat} (hown : OwnB w base e v xs) (hI : Bytes n₁ w sv bs)
    (hroom : xs.length + bs.length ≤ 140737488355328) (hbase : base ≤ w.heap.size) :
    ∃ v' w', (Builtin.append_ #[t, t] ty #[v, sv]).run P w = .ok v' w' ∧ OwnB w' base e v' (xs ++ bs) ∧ w.grownBy w' v.ownBlock ∧ (v'.ownBlock = v.ownBlock ∨ v'.ownBlock = some w.heap.size) := by
  obtain ⟨A, cap, rfl, _, hA, h256, hc⟩ := hI
  have hall : ∀ x ∈ xs ++ bs, x < 256 := fun x hx => (List.mem_append.1 hx).elim (hown.2 x) (h256 x)
  cases A with
  | none =>
    have hb0 : bs.length = 0 := by
      rcases Nat.eq_zero_or_pos bs.length with h0 | h0
      · exact h0
      · obtain ⟨b, off, he, _⟩ := hc h0
        cases he
    obtain rfl : bs = [] := List.length_eq_zero_iff.1 hb0
    obtain rfl : cap = 0 := hA rfl
    refine ⟨v, w, run_append_owned_none (P := P) (w := w) base t ty e i 1 ht hi v xs.length (vals xs) hown.1, by simpa using hown, ⟨rfl, rfl, rfl, Nat.le_refl _, fun _ _ _ => rfl⟩, .inl rfl⟩
  | some a =>
    have hcells : ∀ j u, (vals bs)[j]? = some u → w.cell? (a.add j) = some u := by
      intro j u hu
      have hj : j < bs.length := by
        have := (List.getElem?_eq_some_iff.1 hu).1
        rwa [vals_length] at this
      obtain ⟨b, off, he, _, hcell⟩ := hc (by omega)
      obtain rfl : a = ⟨b, off, none⟩ := by simpa using he
      rw [Addr.add_lit, hcell j hj, ← hu, vals_get bs j hj]
    obtain ⟨v', w', hrun, h2, h3, _, h5⟩ := run_append_own_at (P := P) w base t ty e i z 1 1 ht hi hz hsize hby hzs (by decide) v xs.length (vals xs) hown.1 a bs.length cap (vals bs) (by rw [vals_length, Nat.mul_one]) hcells (vals_one bs) (by simp only [maxLen]; omega) (by omega) hbase
    exact ⟨v', w', hrun, ⟨by rw [List.length_append, vals_append]; exact h2, hall⟩, h3, h5⟩

/-- Below is kept by an append onto the call's own. -/
theorem below_append {B : Nat} {W w w' : World} {v : Value} {base : Nat} {e : TypeId} {xs : List Nat} (hB : Below B W w) (hg : w.grownBy w' v.ownBlock) (hown : OwnB w base e v xs) (hb : B ≤ base) (hs : B ≤ w.heap.size) : Below B W w' :=
  hB.grown hg hs (fun k hk => Nat.le_trans hb (hown.1.lt k hk).1)

theorem block_lt_cell {w : World} {b i : Nat} {v : Value} (h : w.cell? ⟨b, i, none⟩ = some v) : b < w.heap.size := by
  rcases Nat.lt_or_ge b w.heap.size with hlt | hge
  · exact hlt
  · simp [World.cell?, Array.getElem?_eq_none hge] at h

theorem u8_wf {z : Int} (h : (Lit.int .u8 z).wf = true) : 0 ≤ z ∧ z < 256 := by
  simp only [Lit.wf, Bool.and_eq_true, decide_eq_true_eq] at h
  have h1 : IntKind.u8.min = 0 := rfl
  have h2 : IntKind.u8.max = 255 := rfl
  omega

theorem u32_wf {z : Int} (h : (Lit.int .u32 z).wf = true) : 0 ≤ z ∧ z < 4294967296 := by
  simp only [Lit.wf, Bool.and_eq_true, decide_eq_true_eq] at h
  have h1 : IntKind.u32.min = 0 := rfl
  have h2 : IntKind.u32.max = 4294967295 := rfl
  omega
theorem i64_wf {z : Int} (h : (Lit.int .i64 z).wf = true) : -9223372036854775808 ≤ z ∧ z ≤ 9223372036854775807 := by
  simp only [Lit.wf, Bool.and_eq_true, decide_eq_true_eq] at h
  have h1 : IntKind.i64.min = -9223372036854775808 := rfl
  have h2 : IntKind.i64.max = 9223372036854775807 := rfl
  omega

/-- A slice of bytes that came in. -/
theorem open_bytes {t e : TypeId} {base : Nat} {W : World} {v : Value} {d : DataW H} {ps : List MemPlace} (ht : P.underlying t = some (.slice e)) (he : P.underlying e = some (.int .u8)) (hc : P.cellsOf e = 1) (hy : P.bytesOf e = 1)
    (hval : Value.okWide P W .any base t v) (h : DataW.Trod enc P W 0 (fun _ => true) true t v d ps) (hw : ((d.weights P t).all (· ≤ reachBytes)) = true) :
    ∃ bs : List Nat, Bytes W.heap.size W v bs ∧ bs.length ≤ 140737488351232 := by
  obtain ⟨a1, len, cap, rfl⟩ := okWide_slice ht hval
  obtain ⟨fuel, hf⟩ := h
  rcases open_ints ht he hc hf with ⟨hcs, hx⟩ | ⟨a, len', cap', zs, hcs, _, hl, hm, hz, hx, hcell, hwz⟩
  · simp [Value.cells] at hcs
    obtain ⟨rfl, rfl, rfl⟩ := hcs
    exact ⟨[], ⟨none, 0, rfl, by simp, fun _ => rfl, by simp, by simp⟩, by simp⟩
  · simp [Value.cells] at hcs
    obtain ⟨rfl, rfl, rfl⟩ := hcs
    simp only [Prod.mk.injEq] at hx
    obtain ⟨rfl, rfl⟩ := hx
    simp only [if_true] at hz
    have hreach : zs.length ≤ 140737488351232 := by
      unfold DataW.weights at hw
      rw [ht] at hw
      simp only [List.all_cons, Bool.and_eq_true, decide_eq_true_eq, hy, Nat.mul_one, lits, List.length_map, List.length_take, List.length_drop] at hw
      have := hw.1
      unfold reachBytes at this
      omega
    have hlen : (zs.take len).length = len := by simp; omega
    refine ⟨(zs.take len).map Int.toNat, ⟨some a, cap, by rw [List.length_map, hlen], by rw [List.length_map, hlen]; exact hl, (fun h => by cases h), ?_, ?_⟩, by simp; omega⟩
    · intro x hx
      obtain ⟨z, hz', rfl⟩ := List.mem_map.1 hx
      have := u8_wf (hwz z (List.mem_of_mem_take hz'))
      omega
    · intro hpos
      rw [List.length_map, hlen] at hpos ⊢
      obtain ⟨ab, ao, spot⟩ := a
      have hspot : spot = none := by simpa [Addr.add] using World.cell?_spot (hcell 0 (by omega))
      subst hspot
      have h0 := hcell 0 (by omega)
      rw [Addr.add_lit] at h0
      refine ⟨ab, ao, rfl, block_lt_cell h0, fun j hj => ?_⟩
      have hj' := hcell j (by omega)
      rw [Addr.add_lit] at hj'
      rw [hj']
      have hjz : j < zs.length := by omega
      have hb := u8_wf (hwz (zs.getD j 0) (by simp [List.getD, hjz]))
      have e1 : ((zs.take len).map Int.toNat).getD j 0 = (zs.getD j 0).toNat := by
        simp [List.getD, hj, hjz]
      rw [e1]
      congr 2
      omega

end
end Go.Proofs.Ytmfndimejnbgkaa.Law
