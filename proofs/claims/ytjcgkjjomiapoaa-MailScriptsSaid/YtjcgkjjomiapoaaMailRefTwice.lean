/-
  Contracts of millraceref05's Twice and Take.
-/
import Derived.Test.YtjcgkjjomiapoaaMailRefSend
namespace Go.Proofs.Ytjcgkjjomiapoaa.Mail
open Go Go.RowKit Go.Proofs.Ytjcgkjjomiapoaa.Law

theorem RowR.cell {W : World} {base n cap : Nat} {A : Option Addr} {ps : List (Mail3 × Value)} (h : RowR W base (.slice A n cap) ps) (hn : ps.length = n) {i : Nat} {x : Mail3 × Value} (hi : ps[i]? = some x) :
    ∃ g, A = some ⟨g, 0, none⟩ ∧ base ≤ g ∧ g < W.heap.size ∧ n ≤ cap ∧ W.cell? ⟨g, i * 3, none⟩ = some (.int .i64 x.1.src) ∧ W.cell? ⟨g, i * 3 + 1, none⟩ = some (.int .i64 x.1.dst) ∧ W.cell? ⟨g, i * 3 + 2, none⟩ = some x.2 ∧ OwnB W base 5 x.2 x.1.bs ∧ ∃ cur, W.heap[g]? = some (.cells cur 34 (0, 0)) := by
  subst hn
  have hil : i < ps.length := (List.getElem?_eq_some_iff.1 hi).1
  obtain ⟨g0, g1, g2⟩ := flatK_get hi
  have hlt := h.1.lt
  have hc := fun (g : Nat) (hg : (Value.slice A ps.length cap).ownBlock = some g) => h.1.cells hg
  rcases h.1.2 with ⟨hv, h0⟩ | ⟨g, cap', cur, hv, hb, hg, hn, _⟩
  · omega
  · simp only [Value.slice.injEq] at hv
    obtain ⟨rfl, -, rfl⟩ := hv
    have c0 := hc g rfl _ _ g0
    have c1 := hc g rfl _ _ g1
    have c2 := hc g rfl _ _ g2
    rw [Addr.add_lit, Nat.zero_add] at c0 c1 c2
    exact ⟨g, rfl, hb, (hlt g rfl).2, hn, c0, c1, c2, h.2 x (List.mem_of_getElem? hi), cur, hg⟩

set_option maxRecDepth 100000 in
set_option maxHeartbeats 2000000 in
theorem refTwice_none (base q : Nat) (nodes : Int) (l : List Mail3) (w : World) (h : RefPost w base q nodes l) (i : Int) (hi : i < 0 ∨ (l.length : Nat) ≤ i) :
    Calls Try.prog 15 #[.pointer (some ⟨q, 0, none⟩), .int .i64 i] w fun e W => e = .returned (.int .i64 7) ∧ w = W := by
  obtain ⟨_, rv, ps, h1, rfl, hR⟩ := h
  obtain ⟨c0, c1, _⟩ := h1.cells
  have hq := h1.lt
  obtain ⟨R, rc, rfl⟩ := hR.form
  rw [List.length_map] at hi
  obtain ⟨n, hn⟩ : ∃ n, ps.length = n := ⟨_, rfl⟩
  rw [hn] at c1 hi
  clear h1 hR hn
  rcases (show i < 0 ∨ (0 ≤ i ∧ (n : Int) ≤ i) by omega) with h | ⟨h, h'⟩
  all_goals
    clear hi
    go_enter Try.func15, Try.ntmps15
    go_wp2_with fail
    go_ret
    exact ⟨rfl, rfl⟩

set_option maxRecDepth 100000 in
set_option maxHeartbeats 8000000 in
theorem refTwice_calls (base q : Nat) (nodes : Int) (l : List Mail3) (w : World) (h : RefPost w base q nodes l) (hbase : base ≤ w.heap.size) (i : Nat) (m : Mail3) (hi : l[i]? = some m) (hl : m.bs.length ≤ 65536) (hroom : l.length ≤ 1000000000) :
    Calls Try.prog 15 #[.pointer (some ⟨q, 0, none⟩), .int .i64 (i : Nat)] w (RefSent w base q nodes (l ++ [m])) := by
  obtain ⟨hbq, rv, ps, h1, rfl, hR⟩ := h
  rw [List.getElem?_map] at hi
  obtain ⟨x, hx, rfl⟩ := Option.map_eq_some_iff.1 hi
  have hil : i < ps.length := (List.getElem?_eq_some_iff.1 hx).1
  obtain ⟨c0, c1, c2⟩ := h1.cells
  have hq := h1.lt
  have c21 := c2 1
  obtain ⟨R, rc, rfl⟩ := hR.form
  obtain ⟨n, hn⟩ : ∃ n, ps.length = n := ⟨_, rfl⟩
  obtain ⟨g, rfl, hbg, hglt, hnc, e0, e1, e2, hO, cur, hg⟩ := hR.cell rfl hx
  obtain ⟨⟨S, D, bs⟩, u⟩ := x
  simp only at e0 e1 e2 hO hl
  obtain ⟨A, cu, rfl⟩ := hO.bytes.form
  have CO : Hid (Calls Try.prog 28 #[mailV S D (.slice A bs.length cu)] w.drew (OwnFor w base q nodes (ps.map (·.1)) (.slice (some ⟨g, 0, none⟩) ps.length rc) ⟨S, D, bs⟩ bs.length ps.length)) :=
    own_for hbq h1 hR hbase (by simpa using hroom) rfl rfl ((Below.refl _ _).drew) ⟨_, rfl, hO.bytes⟩ hl
  rw [hn] at c1 CO hil hnc
  obtain ⟨len, hlen⟩ : ∃ len, bs.length = len := ⟨_, rfl⟩
  rw [hlen] at e2 CO
  clear h1 hR hn hx hi hO hg c2 hlen hroom
  go_enter Try.func15, Try.ntmps15
  go_wp2_with fail
  go_region_law (first
    | (go_simp; go_at_call 28; ((with_reducible refine CO.out.mono ?_)); rintro e W ⟨A2, c2, A3, c3, W3, rfl, k1, k2, HRUN, k4, k5, HFIN⟩)
    | (refine step_append_ran rfl _ _ _ rfl rfl rfl HRUN.out ?_))
  all_goals
    go_wp2_with fail
    go_ret
    exact HFIN.out

/-- What Take leaves: the post's block alone has turned. -/
def isRefP (t : TypeId) : Bool := t == 31
def RefTaken (w : World) (base q : Nat) (nodes : Int) (l : List Mail3) (m : Mail3) (e : Ending) (W : World) : Prop :=
  ∃ u, e = .returned (.tuple #[mailV m.src m.dst u, .int .i64 0]) ∧ Bytes W.heap.size W u m.bs ∧ RefPost W base q nodes l ∧ Frm isRefP base w W

set_option maxRecDepth 100000 in
set_option maxHeartbeats 2000000 in
theorem refTake_none (base q : Nat) (nodes : Int) (l : List Mail3) (w : World) (h : RefPost w base q nodes l) (i : Int) (hi : i < 0 ∨ (l.length : Nat) ≤ i) :
    Calls Try.prog 12 #[.pointer (some ⟨q, 0, none⟩), .int .i64 i] w (TakeNone w 7) := by
  obtain ⟨_, rv, ps, h1, rfl, hR⟩ := h
  obtain ⟨c0, c1, _⟩ := h1.cells
  have hq := h1.lt
  obtain ⟨R, rc, rfl⟩ := hR.form
  rw [List.length_map] at hi
  obtain ⟨n, hn⟩ : ∃ n, ps.length = n := ⟨_, rfl⟩
  rw [hn] at c1 hi
  have hB := Lib.hid ((Below.refl w.heap.size w).alloc (Nat.le_refl _) (.cells #[.int .i64 0, .int .i64 0, .slice none 0 0] 34))
  clear h1 hR hn
  rcases (show i < 0 ∨ (0 ≤ i ∧ (n : Int) ≤ i) by omega) with h | ⟨h, h'⟩
  all_goals
    clear hi
    go_enter Try.func12, Try.ntmps12
    go_wp2_with fail
    refine bodyPost_ret (v := .tuple #[mailV 0 0 (.slice none 0 0), .int .i64 7]) (by simp [results, Try.results12, go_sem]) rfl ⟨rfl, ?_⟩
    exact hB.out

end Go.Proofs.Ytjcgkjjomiapoaa.Mail
