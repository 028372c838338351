/-
  Messages as the law and the document have them; contract of millraceref05's Same; slices of messages that came in.
-/
import Derived.Test.YtjcgkjjomiapoaaMailKnown
import Derived.Test.YtjcgkjjomiapoaaMailOpen
import Derived.Deep.Slices
import Derived.Deep.Fields
import Derived.ChangeSame
namespace Go.Proofs.Ytjcgkjjomiapoaa.Mail
open Go Go.RowKit Go.ChangeShapes Go.WideShapes Go.Deep Go.Proofs.Ytjcgkjjomiapoaa.Law

structure Mail3 where
  src : Int
  dst : Int
  bs : List Nat

def Mail3.msg (m : Mail3) : Msg := ⟨m.src, m.dst, str m.bs⟩
def sameB (a b : Mail3) : Bool := decide (a.src = b.src) && (decide (a.dst = b.dst) && decide (a.bs = b.bs))
theorem sameB_self (a : Mail3) : sameB a a = true := by simp [sameB]

/-- A message's value. -/
def MailIs (n₀ : Nat) (W : World) (v : Value) (m : Mail3) : Prop := ∃ u, v = mailV m.src m.dst u ∧ Bytes n₀ W u m.bs
def BoolOut (w : World) (b : Bool) (e : Ending) (W : World) : Prop := e = .returned (.bool b) ∧ Below w.heap.size w W

set_option maxRecDepth 100000 in
set_option maxHeartbeats 2000000 in
theorem refSame_calls (a b : Mail3) (v u : Value) (w : World) (hv : MailIs w.heap.size w v a) (hu : MailIs w.heap.size w u b) : Calls Try.prog 13 #[v, u] w (BoolOut w (sameB a b)) := by
  obtain ⟨x, rfl, hx⟩ := hv
  obtain ⟨y, rfl, hy⟩ := hu
  obtain ⟨A, ca, rfl⟩ := hx.form
  obtain ⟨B, cb, rfl⟩ := hy.form
  obtain ⟨S, D, xs⟩ := a
  obtain ⟨S', D', ys⟩ := b
  obtain ⟨r, hr⟩ : ∃ r, sameB ⟨S, D, xs⟩ ⟨S', D', ys⟩ = r := ⟨_, rfl⟩
  rw [hr]
  have HB := Lib.hid (((Below.refl w.heap.size w).alloc (Nat.le_refl _) (.cells #[.int .i64 S, .int .i64 D, .slice A xs.length ca] 34)).alloc (by simp) (.cells #[.int .i64 S', .int .i64 D', .slice B ys.length cb] 34))
  have hcs := same_calls _ _ xs ys _ (hx.below HB.out) (hy.below HB.out)
  simp only at hx hy
  obtain ⟨lx, hlx⟩ : ∃ l, xs.length = l := ⟨_, rfl⟩
  obtain ⟨ly, hly⟩ : ∃ l, ys.length = l := ⟨_, rfl⟩
  rw [hlx] at HB
  rw [hly] at HB
  rw [hlx, hly] at hcs ⊢
  by_cases h1 : S = S'
  · subst h1
    by_cases h2 : D = D'
    · subst h2
      have hrr : decide (xs = ys) = r := by rw [← hr]; simp [sameB]
      rw [hrr] at hcs
      have CS := Lib.hid hcs
      clear hcs hx hy hr hrr hlx hly
      go_enter Try.func13, Try.ntmps13
      go_wp2_with fail
      refine CS.out.mono ?_
      rintro e W ⟨rfl, rfl⟩
      go_wp2_with fail
      go_ret
      exact ⟨rfl, HB.out⟩
    · obtain rfl : r = false := by rw [← hr]; simp [sameB, h2]
      have hd : ((D : Int) == D') = false := by rw [beq_eq_false_iff_ne]; exact h2
      clear hcs hx hy hr hlx hly h2
      go_enter Try.func13, Try.ntmps13
      go_wp2_with fail
      go_ret
      exact ⟨rfl, HB.out⟩
  · obtain rfl : r = false := by rw [← hr]; simp [sameB, h1]
    have hd : ((S : Int) == S') = false := by rw [beq_eq_false_iff_ne]; exact h1
    clear hcs hx hy hr hlx hly h1
    go_enter Try.func13, Try.ntmps13
    go_wp2_with fail
    go_ret
    exact ⟨rfl, HB.out⟩

/-- The slice value reads as these messages. -/
def Mails (n₀ : Nat) (W : World) (v : Value) (l : List Mail3) : Prop :=
  ∃ A cap, v = .slice A l.length cap ∧ l.length ≤ cap ∧ (0 < l.length → ∃ b off, A = some ⟨b, off, none⟩ ∧ b < n₀ ∧ ∀ (j : Nat) (m : Mail3), l[j]? = some m →
    ∃ u, W.cell? ⟨b, off + j * 3, none⟩ = some (.int .i64 m.src) ∧ W.cell? ⟨b, off + j * 3 + 1, none⟩ = some (.int .i64 m.dst) ∧ W.cell? ⟨b, off + j * 3 + 2, none⟩ = some u ∧ Bytes n₀ W u m.bs)
theorem Mails.form {n₀ : Nat} {W : World} {v : Value} {l : List Mail3} : Mails n₀ W v l → ∃ A cap, v = .slice A l.length cap
  | ⟨A, cap, e, _⟩ => ⟨A, cap, e⟩
theorem Mails.cells {n₀ len cap : Nat} {W : World} {A : Option Addr} {l : List Mail3} (h : Mails n₀ W (.slice A len cap) l) (hp : 0 < len) :
    ∃ b off, A = some ⟨b, off, none⟩ ∧ b < n₀ ∧ ∀ (j : Nat) (m : Mail3), l[j]? = some m →
    ∃ u, W.cell? ⟨b, off + j * 3, none⟩ = some (.int .i64 m.src) ∧ W.cell? ⟨b, off + j * 3 + 1, none⟩ = some (.int .i64 m.dst) ∧ W.cell? ⟨b, off + j * 3 + 2, none⟩ = some u ∧ Bytes n₀ W u m.bs := by
  obtain ⟨A', cap', e, _, hc⟩ := h
  simp only [Value.slice.injEq] at e
  obtain ⟨rfl, rfl, rfl⟩ := e
  exact hc hp

section
variable {H : Type} {enc : TypeId × Value → H} {P : Program}
theorem open_slice_fields {w : World} {base : Nat} {spare : Nat → Bool} {held : Bool} {t e : TypeId} {fs : Array Field} {fuel : Nat} {cs : List Value} {x : DataW H × List MemPlace} (ht : P.underlying t = some (.slice e)) (he : P.underlying e = some (.struct fs))
    (hone : oneCellFields P fs = true) (hC : P.cellsOf e = fs.size) (h : DataW.trod enc P w base spare held fuel t cs = some x) :
    (cs = [.slice none 0 0] ∧ x = (.nil, [])) ∨
    ∃ (a : Addr) (len cap m : Nat), cs = [.slice (some a) len cap] ∧ base ≤ a.block ∧ len ≤ cap ∧ cap ≤ maxLen ∧ m = (if spare a.block then cap else len) ∧
      ∀ i, i < m → ∃ (n : Nat), ∀ (j : Nat) (f : Field), fs[j]? = some f → ∃ (v : Value) (y : DataW H × List MemPlace), w.cell? (a.add (i * fs.size + j)) = some v ∧ DataW.trod enc P w base spare held n f.type [v] = some y := by
  rcases open_slice ht h with h0 | ⟨a, len, cap, m, n, D, Pl, hcs, hb, hl, hm, hmm, hx, hi⟩
  · exact .inl h0
  · refine .inr ⟨a, len, cap, m, hcs, hb, hl, hm, hmm, fun i him => ?_⟩
    obtain ⟨cs', hc, ht'⟩ := hi i him
    rw [hC] at hc
    obtain ⟨ys, n', hn', hy, hlen, hyl, hf⟩ := DataW.trod_struct he ht'
    obtain ⟨_, hcl, hat⟩ := World.cells?_some hc
    refine ⟨n', fun j f hj => ?_⟩
    obtain ⟨ho, hk⟩ := hone_of hone j f hj
    have hjl : j < fs.size := (Array.getElem?_eq_some_iff.1 hj).1
    have hcell := hat j hjl
    have hv : cs'[j]? = some (cs'[j]'(by omega)) := List.getElem?_eq_getElem (by omega)
    have h1 := hf j f hj
    rw [ho, hk] at h1
    have hone' : (cs'.drop j).take 1 = [cs'[j]'(by omega)] := by
      rw [List.drop_eq_getElem_cons (by omega)]
      rfl
    rw [hone'] at h1
    have hys : ys[j]? = some (ys[j]'(by omega)) := List.getElem?_eq_getElem (by omega)
    refine ⟨_, _, ?_, h1.trans hys⟩
    rw [← Go.Deep.add_add, hcell, hv]

/-- One cell that reads as bytes. -/
theorem open_bytes1 {w : World} {fuel : Nat} {t e : TypeId} {v : Value} {y : DataW H × List MemPlace} (ht : P.underlying t = some (.slice e)) (he : P.underlying e = some (.int .u8)) (ce : P.cellsOf e = 1)
    (h : DataW.trod enc P w 0 (fun _ => true) true fuel t [v] = some y) : ∃ bs, Bytes w.heap.size w v bs ∧ bs.length ≤ maxLen := by
  rcases open_ints ht he ce h with ⟨hcs, _⟩ | ⟨a, len, cap, zs, hcs, _, hl, hm, hz, _, hcell, hwz⟩
  · obtain rfl : v = .slice none 0 0 := by simpa using hcs
    exact ⟨[], ⟨none, 0, rfl, by simp, fun _ => rfl, by simp, by simp⟩, by simp⟩
  · obtain rfl : v = .slice (some a) len cap := by simpa using hcs
    simp only [if_true] at hz
    have hlen : (zs.take len).length = len := by simp; omega
    refine ⟨(zs.take len).map Int.toNat, ⟨some a, cap, by rw [List.length_map, hlen], by rw [List.length_map, hlen]; exact hl, (fun h => by cases h), ?_, ?_⟩, by simp; omega⟩
    · intro x hx
      obtain ⟨z, hz', rfl⟩ := List.mem_map.1 hx
      have := u8_wf (hwz z (List.mem_of_mem_take hz'))
      omega
    · intro hpos
      rw [List.length_map, hlen] at hpos ⊢
      obtain ⟨ab, ao, spot⟩ := a
      have hspot : spot = none := by simpa [Addr.add] using World.cell?_spot (hcell 0 (by omega))
      subst hspot
      have h0 := hcell 0 (by omega)
      rw [Addr.add_lit] at h0
      refine ⟨ab, ao, rfl, block_lt_cell h0, fun j hj => ?_⟩
      have hj' := hcell j (by omega)
      rw [Addr.add_lit] at hj'
      rw [hj']
      have hjz : j < zs.length := by omega
      have hb := u8_wf (hwz (zs.getD j 0) (by simp [List.getD, hjz]))
      have e1 : ((zs.take len).map Int.toNat).getD j 0 = (zs.getD j 0).toNat := by
        simp [List.getD, hj, hjz]
      rw [e1]
      congr 2
      omega
end

/-- A slice of messages that came in. -/
theorem open_mails {H : Type} {enc : TypeId × Value → H} {W : World} {base : Nat} {v : Value} {d : DataW H} {ps : List MemPlace} (hval : Value.okWide Try.prog W .any base 29 v) (h : DataW.Trod enc Try.prog W 0 (fun _ => true) true 29 v d ps) :
    ∃ l : List Mail3, Mails W.heap.size W v l ∧ l.length ≤ maxLen ∧ ∀ m ∈ l, m.bs.length ≤ maxLen := by
  obtain ⟨a1, len0, cap0, rfl⟩ := okWide_slice Try.underlying29 hval
  obtain ⟨fuel, hf⟩ := h
  rcases open_slice_fields Try.underlying29 Try.underlying34 (by kernel_rfl) (by kernel_rfl) hf with ⟨hcs, _⟩ | ⟨a, len, cap, m, hcs, _, hl, hm, hmm, hi⟩
  · simp [Value.cells] at hcs
    obtain ⟨rfl, rfl, rfl⟩ := hcs
    exact ⟨[], ⟨none, 0, rfl, by simp, by simp⟩, by simp, by simp⟩
  · simp [Value.cells] at hcs
    obtain ⟨rfl, rfl, rfl⟩ := hcs
    simp only [if_true] at hmm
    subst hmm
    have hone : ∀ i, i < len0 → ∃ (x : Mail3) (u : Value), W.cell? (a.add (i * 3)) = some (.int .i64 x.src) ∧ W.cell? (a.add (i * 3 + 1)) = some (.int .i64 x.dst) ∧ W.cell? (a.add (i * 3 + 2)) = some u ∧ Bytes W.heap.size W u x.bs ∧ x.bs.length ≤ maxLen := by
      intro i hil
      obtain ⟨n, hf⟩ := hi i (by omega)
      obtain ⟨q0, y0, c0, t0⟩ := hf 0 _ rfl
      obtain ⟨q1, y1, c1, t1⟩ := hf 1 _ rfl
      obtain ⟨q2, y2, c2, t2⟩ := hf 2 _ rfl
      obtain ⟨z0, e0, -, _⟩ := DataW.trod_int Try.underlying3 t0
      obtain ⟨z1, e1, -, _⟩ := DataW.trod_int Try.underlying3 t1
      obtain rfl : q0 = .int .i64 z0 := by simpa using e0
      obtain rfl : q1 = .int .i64 z1 := by simpa using e1
      obtain ⟨bs, hbs, hbl⟩ := open_bytes1 Try.underlying32 Try.underlying5 (by kernel_rfl) t2
      exact ⟨⟨z0, z1, bs⟩, q2, c0, c1, c2, hbs, hbl⟩
    obtain ⟨X, hX⟩ := Classical.axiomOfChoice (r := fun (i : Nat) (x : Mail3) => i < len0 → ∃ u, W.cell? (a.add (i * 3)) = some (.int .i64 x.src) ∧ W.cell? (a.add (i * 3 + 1)) = some (.int .i64 x.dst) ∧ W.cell? (a.add (i * 3 + 2)) = some u ∧ Bytes W.heap.size W u x.bs ∧ x.bs.length ≤ maxLen) (fun i => by
      by_cases h : i < len0
      · obtain ⟨x, u, hx⟩ := hone i h
        exact ⟨x, fun _ => ⟨u, hx⟩⟩
      · exact ⟨⟨0, 0, []⟩, fun h' => absurd h' h⟩)
    have hget : ∀ (j : Nat) (x : Mail3), ((List.range len0).map X)[j]? = some x → j < len0 ∧ X j = x := by
      intro j x hx
      rw [List.getElem?_map] at hx
      by_cases hj : j < len0
      · rw [List.getElem?_range hj] at hx
        exact ⟨hj, by simpa using hx⟩
      · rw [List.getElem?_eq_none (by simp; omega)] at hx
        simp at hx
    refine ⟨(List.range len0).map X, ⟨some a, m, by simp, by simpa using hl, fun hp => ?_⟩, by simp; omega, fun m hm' => ?_⟩
    · have hp' : 0 < len0 := by simpa using hp
      obtain ⟨u0, h0, _⟩ := hX 0 hp'
      obtain ⟨ab, ao, spot⟩ := a
      have hspot : spot = none := by simpa [Addr.add] using World.cell?_spot h0
      subst hspot
      rw [Addr.add_lit] at h0
      refine ⟨ab, ao, rfl, block_lt_cell h0, fun j x hx => ?_⟩
      obtain ⟨hj, rfl⟩ := hget j x hx
      obtain ⟨u, c0, c1, c2, hb, _⟩ := hX j hj
      rw [Addr.add_lit] at c0 c1 c2
      exact ⟨u, c0, c1, c2, hb⟩
    · obtain ⟨j, hj⟩ := List.mem_iff_getElem?.1 hm'
      obtain ⟨hj', rfl⟩ := hget j _ hj
      obtain ⟨u, _, _, _, _, hb⟩ := hX j hj'
      exact hb

end Go.Proofs.Ytjcgkjjomiapoaa.Mail
