/-
  A script of steps that came in.
-/
import Derived.Test.YtjcgkjjomiapoaaMailRefSame
namespace Go.Proofs.Ytjcgkjjomiapoaa.Mail
open Go Go.RowKit Go.ChangeShapes Go.WideShapes Go.Deep Go.Proofs.Ytjcgkjjomiapoaa.Law

structure Step where
  kind : Int
  i : Int
  at' : Int
  turn : Nat
  mail : Mail3

/-- The seven cells of a step. -/
def StepAt (W : World) (b o : Nat) (s : Step) (u : Value) : Prop :=
  W.cell? ⟨b, o, none⟩ = some (.int .i64 s.kind) ∧ W.cell? ⟨b, o + 1, none⟩ = some (.int .i64 s.i) ∧ W.cell? ⟨b, o + 2, none⟩ = some (.int .i64 s.at') ∧ W.cell? ⟨b, o + 3, none⟩ = some (.int .u8 (s.turn : Nat)) ∧
  W.cell? ⟨b, o + 4, none⟩ = some (.int .i64 s.mail.src) ∧ W.cell? ⟨b, o + 5, none⟩ = some (.int .i64 s.mail.dst) ∧ W.cell? ⟨b, o + 6, none⟩ = some u
/-- The slice value reads as these steps. -/
def Steps (n₀ : Nat) (W : World) (v : Value) (l : List Step) : Prop :=
  ∃ A cap, v = .slice A l.length cap ∧ l.length ≤ cap ∧ (0 < l.length → ∃ b off, A = some ⟨b, off, none⟩ ∧ b < n₀ ∧ ∀ (j : Nat) (s : Step), l[j]? = some s →
    s.turn < 256 ∧ s.mail.bs.length ≤ maxLen ∧ ∃ u, StepAt W b (off + j * 7) s u ∧ Bytes n₀ W u s.mail.bs)

/-- One step. -/
theorem open_step {H : Type} {enc : TypeId × Value → H} {W : World} {fuel : Nat} {a : Addr} {cs' : List Value} {y : DataW H × List MemPlace} (hc : W.cells? 0 a 7 = some cs')
    (h : DataW.trod enc Try.prog W 0 (fun _ => true) true fuel 36 cs' = some y) :
    ∃ (s : Step) (u : Value), a.spot = none ∧ StepAt W a.block a.off s u ∧ Bytes W.heap.size W u s.mail.bs ∧ s.turn < 256 ∧ s.mail.bs.length ≤ maxLen ∧ a.block < W.heap.size := by
  obtain ⟨xs, n', _, _, hcl, hxl, hf⟩ := DataW.trod_struct Try.underlying36 h
  obtain ⟨_, hlen, hat⟩ := World.cells?_some hc
  match cs', hlen with
  | [q0, q1, q2, q3, q4, q5, q6], _ =>
    match xs, hxl with
    | [y0, y1, y2, y3, y4], _ =>
      have ki : Try.prog.cellsOf 3 = 1 := by kernel_rfl
      have ku : Try.prog.cellsOf 5 = 1 := by kernel_rfl
      have kb : Try.prog.cellsOf 32 = 1 := by kernel_rfl
      have km : Try.prog.cellsOf 34 = 3 := by kernel_rfl
      have f0 : DataW.trod enc Try.prog W 0 (fun _ => true) true n' 3 [q0] = some y0 := by have := hf 0 _ rfl; simpa [ki] using this
      have f1 : DataW.trod enc Try.prog W 0 (fun _ => true) true n' 3 [q1] = some y1 := by have := hf 1 _ rfl; simpa [ki] using this
      have f2 : DataW.trod enc Try.prog W 0 (fun _ => true) true n' 3 [q2] = some y2 := by have := hf 2 _ rfl; simpa [ki] using this
      have f3 : DataW.trod enc Try.prog W 0 (fun _ => true) true n' 5 [q3] = some y3 := by have := hf 3 _ rfl; simpa [ku] using this
      have f4 : DataW.trod enc Try.prog W 0 (fun _ => true) true n' 34 [q4, q5, q6] = some y4 := by have := hf 4 _ rfl; simpa [km] using this
      obtain ⟨ms, n2, _, _, _, hml, hg⟩ := DataW.trod_struct Try.underlying34 f4
      match ms, hml with
      | [m0, m1, m2], _ =>
        have g0 : DataW.trod enc Try.prog W 0 (fun _ => true) true n2 3 [q4] = some m0 := by have := hg 0 _ rfl; simpa [ki] using this
        have g1 : DataW.trod enc Try.prog W 0 (fun _ => true) true n2 3 [q5] = some m1 := by have := hg 1 _ rfl; simpa [ki] using this
        have g2 : DataW.trod enc Try.prog W 0 (fun _ => true) true n2 32 [q6] = some m2 := by have := hg 2 _ rfl; simpa [kb] using this
        obtain ⟨z0, e0, -, _⟩ := DataW.trod_int Try.underlying3 f0
        obtain ⟨z1, e1, -, _⟩ := DataW.trod_int Try.underlying3 f1
        obtain ⟨z2, e2, -, _⟩ := DataW.trod_int Try.underlying3 f2
        obtain ⟨z3, e3, -, wf3⟩ := DataW.trod_int Try.underlying5 f3
        obtain ⟨z4, e4, -, _⟩ := DataW.trod_int Try.underlying3 g0
        obtain ⟨z5, e5, -, _⟩ := DataW.trod_int Try.underlying3 g1
        obtain rfl : q0 = .int .i64 z0 := by simpa using e0
        obtain rfl : q1 = .int .i64 z1 := by simpa using e1
        obtain rfl : q2 = .int .i64 z2 := by simpa using e2
        obtain rfl : q3 = .int .u8 z3 := by simpa using e3
        obtain rfl : q4 = .int .i64 z4 := by simpa using e4
        obtain rfl : q5 = .int .i64 z5 := by simpa using e5
        obtain ⟨bs, hbs, hbl⟩ := open_bytes1 Try.underlying32 Try.underlying5 (by kernel_rfl) g2
        have c0 := hat 0 (by omega)
        have c1 := hat 1 (by omega)
        have c2 := hat 2 (by omega)
        have c3 := hat 3 (by omega)
        have c4 := hat 4 (by omega)
        have c5 := hat 5 (by omega)
        have c6 := hat 6 (by omega)
        obtain ⟨ab, ao, sp⟩ := a
        have hsp : sp = none := by
          have h := World.cell?_spot (c0.trans (rfl : _ = some (Value.int .i64 z0)))
          simpa [Addr.add] using h
        subst hsp
        rw [Addr.add_lit] at c0 c1 c2 c3 c4 c5 c6
        have w3 := u8_wf wf3
        have e3' : ((z3.toNat : Nat) : Int) = z3 := by omega
        exact ⟨⟨z0, z1, z2, z3.toNat, ⟨z4, z5, bs⟩⟩, q6, rfl, ⟨c0, c1, c2, by rw [e3']; exact c3, c4, c5, c6⟩, hbs, by show z3.toNat < 256; omega, hbl, block_lt_cell c0⟩

theorem open_steps {H : Type} {enc : TypeId × Value → H} {W : World} {base : Nat} {v : Value} {d : DataW H} {ps : List MemPlace} (hval : Value.okWide Try.prog W .any base 22 v) (h : DataW.Trod enc Try.prog W 0 (fun _ => true) true 22 v d ps) :
    ∃ l : List Step, Steps W.heap.size W v l ∧ l.length ≤ maxLen := by
  obtain ⟨a1, len0, cap0, rfl⟩ := okWide_slice Try.underlying22 hval
  obtain ⟨fuel, hf⟩ := h
  rcases open_slice Try.underlying22 hf with ⟨hcs, _⟩ | ⟨a, len, cap, m, n, D, Pl, hcs, _, hl, hm, hmm, _, hi⟩
  · simp [Value.cells] at hcs
    obtain ⟨rfl, rfl, rfl⟩ := hcs
    exact ⟨[], ⟨none, 0, rfl, by simp, by simp⟩, by simp⟩
  · simp [Value.cells] at hcs
    obtain ⟨rfl, rfl, rfl⟩ := hcs
    simp only [if_true] at hmm
    subst hmm
    have hC : Try.prog.cellsOf 36 = 7 := by kernel_rfl
    rw [hC] at hi
    have hone : ∀ i, i < len0 → ∃ (s : Step) (u : Value), a.spot = none ∧ StepAt W a.block (a.off + i * 7) s u ∧ Bytes W.heap.size W u s.mail.bs ∧ s.turn < 256 ∧ s.mail.bs.length ≤ maxLen ∧ a.block < W.heap.size := by
      intro i hil
      obtain ⟨cs', hc, ht⟩ := hi i (by omega)
      obtain ⟨s, u, _, h2, h3⟩ := open_step hc ht
      obtain ⟨cs0, hc0, ht0⟩ := hi 0 (by omega)
      obtain ⟨_, _, h0, _⟩ := open_step hc0 ht0
      obtain ⟨ab, ao, sp⟩ := a
      have hsp : sp = none := by simpa [Addr.add] using h0
      subst hsp
      rw [Addr.add_lit] at h2 h3
      exact ⟨s, u, rfl, h2, h3⟩
    obtain ⟨X, hX⟩ := Classical.axiomOfChoice (r := fun (i : Nat) (s : Step) => i < len0 → ∃ u : Value, a.spot = none ∧ StepAt W a.block (a.off + i * 7) s u ∧ Bytes W.heap.size W u s.mail.bs ∧ s.turn < 256 ∧ s.mail.bs.length ≤ maxLen ∧ a.block < W.heap.size) (fun i => by
      by_cases h : i < len0
      · obtain ⟨x, u, hx⟩ := hone i h
        exact ⟨x, fun _ => ⟨u, hx⟩⟩
      · exact ⟨⟨0, 0, 0, 0, ⟨0, 0, []⟩⟩, fun h' => absurd h' h⟩)
    have hget : ∀ (j : Nat) (x : Step), ((List.range len0).map X)[j]? = some x → j < len0 ∧ X j = x := by
      intro j x hx
      rw [List.getElem?_map] at hx
      by_cases hj : j < len0
      · rw [List.getElem?_range hj] at hx
        exact ⟨hj, by simpa using hx⟩
      · rw [List.getElem?_eq_none (by simp; omega)] at hx
        simp at hx
    refine ⟨(List.range len0).map X, ⟨some a, m, by simp, by simpa using hl, fun hp => ?_⟩, by simp; omega⟩
    have hp' : 0 < len0 := by simpa using hp
    obtain ⟨u0, hs, _, _, _, _, hb⟩ := hX 0 hp'
    obtain ⟨ab, ao, spot⟩ := a
    obtain rfl : spot = none := hs
    refine ⟨ab, ao, rfl, hb, fun j x hx => ?_⟩
    obtain ⟨hj, rfl⟩ := hget j x hx
    obtain ⟨u, _, h1, h2, h3, h4, _⟩ := hX j hj
    exact ⟨h3, h4, u, h1, h2⟩

end Go.Proofs.Ytjcgkjjomiapoaa.Mail
