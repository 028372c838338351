/-
  Contract of millraceref05's Spoil.
-/
import Derived.Test.YtjcgkjjomiapoaaMailRefLose
namespace Go.Proofs.Ytjcgkjjomiapoaa.Mail
open Go Go.RowKit Go.Proofs.Ytjcgkjjomiapoaa.Law

theorem flatK_put : ∀ {l : List (Mail3 × Value)} {i : Nat} (m : Mail3 × Value), i < l.length → flatK (l.set i m) = (((flatK l).set (i * 3) (.int .i64 m.1.src)).set (i * 3 + 1) (.int .i64 m.1.dst)).set (i * 3 + 2) m.2
  | [], i, m, h => by simp at h
  | q :: r, 0, m, _ => rfl
  | q :: r, i + 1, m, h => by
    have ih := flatK_put (l := r) (i := i) m (by simpa using h)
    rw [show (i + 1) * 3 = i * 3 + 3 by omega, show i * 3 + 3 + 1 = (i * 3 + 1) + 3 by omega, show i * 3 + 3 + 2 = (i * 3 + 2) + 3 by omega]
    simp only [List.set_cons_succ, flatK, ih]

def RefSpoilt (w : World) (base q : Nat) (nodes : Int) (l : List Mail3) (e : Ending) (W : World) : Prop := e = .returned (.int .i64 0) ∧ RefPost W base q nodes l ∧ Frm isMail base w W

/-- An element of the document's post is written over. -/
theorem ref_put {w W : World} {base q g n rc : Nat} {nodes : Int} {ps : List (Mail3 × Value)} (hbq : base ≤ q) (h1 : RB w q nodes (.slice (some ⟨g, 0, none⟩) n rc)) (hR : RowR w base (.slice (some ⟨g, 0, none⟩) n rc) ps) (hn : ps.length = n) (hbase : base ≤ w.heap.size) (hB : Below w.heap.size w W) {i : Nat} (hi : i < n) (m : Mail3) (v : Value) (hO : OwnB W base 5 v m.bs) :
    RefSpoilt w base q nodes ((ps.map (·.1)).set i m) (.returned (.int .i64 0)) (((W.setCell ⟨g, i * 3, none⟩ (.int .i64 m.src)).setCell ⟨g, i * 3 + 1, none⟩ (.int .i64 m.dst)).setCell ⟨g, i * 3 + 2, none⟩ v) := by
  subst hn
  have hq : RB W q nodes (.slice (some ⟨g, 0, none⟩) ps.length rc) := (hB.block q h1.lt).trans h1
  have hR2 := hR.below hB
  obtain ⟨s1, -⟩ := hR2.1.stored (i * 3) (.int .i64 m.src)
  obtain ⟨s2, -⟩ := s1.stored (i * 3 + 1) (.int .i64 m.dst)
  obtain ⟨s3, -⟩ := s2.stored (i * 3 + 2) v
  rw [← flatK_put (m, v) hi] at s3
  obtain ⟨x, hx⟩ : ∃ x, ps[i]? = some x := ⟨_, List.getElem?_eq_getElem hi⟩
  obtain ⟨g', hg', hbg, hglt, _, _, _, _, _, cur, hg⟩ := hR2.cell rfl hx
  obtain rfl : g = g' := by simpa using hg'
  have hs := Nat.le_trans hbase hB.size
  have F1 : Frm isMail base W (W.setCell ⟨g, i * 3, none⟩ (.int .i64 m.src)) := (Frm.refl isMail base W).set hg (by decide) hbg hs _
  have F2 := F1.set (i := i * 3 + 1) (heap_set hg _ _) (by decide) hbg (by simpa using hs) (.int .i64 m.dst)
  have F3 := F2.set (i := i * 3 + 2) (heap_set (heap_set hg _ _) _ _) (by decide) hbg (by simpa using hs) v
  refine ⟨rfl, ⟨hbq, _, ps.set i (m, v), F3.2 q _ _ _ hq (by decide), by rw [List.map_set], ⟨by rw [List.length_set]; exact s3, fun p hp => ?_⟩⟩, (Frm.of_below hB hbase).trans F3⟩
  rcases List.mem_or_eq_of_mem_set hp with hp | rfl
  · exact ownB_frm (hR2.2 p hp) F3 (by decide)
  · exact ownB_frm hO F3 (by decide)

set_option maxRecDepth 100000 in
set_option maxHeartbeats 2000000 in
theorem refSpoil_none (base q : Nat) (nodes : Int) (l : List Mail3) (w : World) (h : RefPost w base q nodes l) (i k : Int) (b : Nat) (hi : i < 0 ∨ (l.length : Nat) ≤ i) :
    Calls Try.prog 17 #[.pointer (some ⟨q, 0, none⟩), .int .i64 i, .int .i64 k, .int .u8 (b : Nat)] w fun e W => e = .returned (.int .i64 7) ∧ w = W := by
  obtain ⟨_, rv, ps, h1, rfl, hR⟩ := h
  obtain ⟨c0, c1, _⟩ := h1.cells
  have hq := h1.lt
  obtain ⟨R, rc, rfl⟩ := hR.form
  rw [List.length_map] at hi
  obtain ⟨n, hn⟩ : ∃ n, ps.length = n := ⟨_, rfl⟩
  rw [hn] at c1 hi
  clear h1 hR hn
  rcases (show i < 0 ∨ (0 ≤ i ∧ (n : Int) ≤ i) by omega) with h | ⟨h, h'⟩
  all_goals
    clear hi
    go_enter Try.func17, Try.ntmps17
    go_wp2_with fail
    go_ret
    exact ⟨rfl, rfl⟩

set_option maxRecDepth 100000 in
set_option maxHeartbeats 4000000 in
theorem refSpoil_range (base q : Nat) (nodes : Int) (l : List Mail3) (w : World) (h : RefPost w base q nodes l) (i : Nat) (m : Mail3) (hi : l[i]? = some m) (hroom : l.length ≤ 1000000000) (hl : m.bs.length ≤ 65536) (k : Int) (b : Nat) (hk : k < 0 ∨ (m.bs.length : Int) ≤ k) :
    Calls Try.prog 17 #[.pointer (some ⟨q, 0, none⟩), .int .i64 (i : Nat), .int .i64 k, .int .u8 (b : Nat)] w fun e W => e = .returned (.int .i64 8) ∧ w = W := by
  obtain ⟨hbq, rv, ps, h1, rfl, hR⟩ := h
  rw [List.getElem?_map] at hi
  obtain ⟨x, hx, rfl⟩ := Option.map_eq_some_iff.1 hi
  have hil : i < ps.length := (List.getElem?_eq_some_iff.1 hx).1
  rw [List.length_map] at hroom
  obtain ⟨c0, c1, c2⟩ := h1.cells
  have hq := h1.lt
  obtain ⟨R, rc, rfl⟩ := hR.form
  obtain ⟨g, rfl, hbg, hglt, hnc, e0, e1, e2, hO, cur, hg⟩ := hR.cell rfl hx
  obtain ⟨⟨S, D, bs⟩, u⟩ := x
  simp only at e0 e1 e2 hO hk hl
  obtain ⟨A, cu, rfl⟩ := hO.bytes.form
  obtain ⟨n, hn⟩ : ∃ n, ps.length = n := ⟨_, rfl⟩
  obtain ⟨len, hlen⟩ : ∃ len, bs.length = len := ⟨_, rfl⟩
  rw [hn] at c1 hil hnc hroom
  rw [hlen] at e2 hk hl
  have hiI : (i : Int) < (n : Int) := by omega
  have hni : decide (n ≤ i) = false := by rw [decide_eq_false_iff_not]; omega
  clear h1 hR hn hx hi hO hg c2 hlen
  rcases (show k < 0 ∨ (0 ≤ k ∧ (len : Int) ≤ k) by omega) with hk | ⟨hk, hk2⟩
  all_goals
    go_enter Try.func17, Try.ntmps17
    go_wp2_with fail
    go_ret
    exact ⟨rfl, rfl⟩

/-- What own leaves where its memory is about to be spoilt. -/
def OwnSpoil (w : World) (base q g n rc : Nat) (nodes : Int) (l : List Mail3) (i : Nat) (m : Mail3) (len k x y : Nat) (e : Ending) (W : World) : Prop :=
  ∃ g2 c, e = .returned (mailV m.src m.dst (.slice (some ⟨g2, 0, none⟩) len c)) ∧ W.cell? ⟨q, 1, none⟩ = some (.slice (some ⟨g, 0, none⟩) n rc) ∧ q < W.heap.size ∧ g < W.heap.size ∧ g2 < W.heap.size ∧ len ≤ c ∧ q ≠ g2 ∧ g ≠ g2 ∧
    W.cell? ⟨g2, k, none⟩ = some (.int .u8 (x : Nat)) ∧ W.frozen? ⟨g2, k, none⟩ = false ∧ (∀ j, W.frozen? ⟨g, j, none⟩ = false) ∧ (∃ u0 u1 u2, W.cell? ⟨g, i * 3, none⟩ = some u0 ∧ W.cell? ⟨g, i * 3 + 1, none⟩ = some u1 ∧ W.cell? ⟨g, i * 3 + 2, none⟩ = some u2) ∧
    Hid (RefSpoilt w base q nodes (l.set i m) (.returned (.int .i64 0)) ((((((W.setCell ⟨g2, k, none⟩ (.int .u8 (y : Nat))).setCell ⟨g, i * 3, none⟩ (.int .i64 m.src)).setCell ⟨g, i * 3 + 1, none⟩ (.int .i64 m.dst)).setCell ⟨g, i * 3 + 2, none⟩ (.slice (some ⟨g2, 0, none⟩) len c)).alloc (.cells #[.int .i64 m.src, .int .i64 m.dst, .slice (some ⟨g2, 0, none⟩) len c] 34)).drew.drew))

theorem own_spoil {w w0 : World} {base q g n rc len k y : Nat} {nodes : Int} {ps : List (Mail3 × Value)} {S D : Int} {bs : List Nat} {u : Value} (hbq : base ≤ q) (h1 : RB w q nodes (.slice (some ⟨g, 0, none⟩) n rc)) (hR : RowR w base (.slice (some ⟨g, 0, none⟩) n rc) ps) (hn : ps.length = n) (hbase : base ≤ w.heap.size) (hB : Below w.heap.size w w0) {i : Nat} (hx : ps[i]? = some (⟨S, D, bs⟩, u)) (hlen : bs.length = len) (hl : len ≤ 65536) (hk : k < len) (hy : y < 256) :
    Calls Try.prog 28 #[mailV S D u] w0 (OwnSpoil w base q g n rc nodes (ps.map (·.1)) i ⟨S, D, bs.set k y⟩ len k (bs.getD k 0) y) := by
  have hO := hR.2 _ (List.mem_of_getElem? hx)
  simp only at hO
  refine (own_calls ⟨S, D, bs⟩ _ w0 ⟨u, rfl, (hO.below hB).bytes⟩ (by simpa [hlen] using hl)).mono ?_
  rintro e W ⟨v', rfl, hOv, hBW⟩
  simp only at hOv
  have hB1 := hB.trans (hBW.mono hB.size)
  obtain ⟨g2, c, rfl, hb2, hg2⟩ := hOv.form (by omega)
  rw [hlen] at hOv
  have hlc : len ≤ c := by
    rcases hOv.1.2 with ⟨hv, _⟩ | ⟨g', cap', cur, hv, _, _, hnc, _⟩
    · simp at hv
    · simp only [Value.slice.injEq] at hv
      obtain ⟨-, -, rfl⟩ := hv
      omega
  obtain ⟨x0, x1⟩ := hOv.cell hlen k hk
  have h1' : RB W q nodes (.slice (some ⟨g, 0, none⟩) n rc) := (hB1.block q h1.lt).trans h1
  obtain ⟨g', hg', hbg, hglt, _, f0, f1, f2, _, cur, hg⟩ := (hR.below hB1).cell hn hx
  obtain rfl : g = g' := by simpa using hg'
  obtain ⟨g', hg', _, hglt0, _⟩ := hR.cell hn hx
  obtain rfl : g = g' := by simpa using hg'
  have hsz := hB.size
  have hq := h1.lt
  have hiw : i < n := by rw [← hn]; exact (List.getElem?_eq_some_iff.1 hx).1
  have hA : Below W.heap.size W (W.alloc (.cells #[.int .i64 S, .int .i64 D, .slice (some ⟨g2, 0, none⟩) len c] 34)).drew := ((Below.refl _ _).alloc (Nat.le_refl _) _).drew
  have hst := ((hOv.below hA).store hlen k y hy).drew
  have hBd : Below w.heap.size w ((((W.alloc (.cells #[.int .i64 S, .int .i64 D, .slice (some ⟨g2, 0, none⟩) len c] 34)).drew).setCell ⟨g2, k, none⟩ (.int .u8 (y : Nat))).drew) :=
    ((hB1.trans (hA.mono hB1.size)).setCell (p := ⟨g2, k, none⟩) (by show w.heap.size ≤ g2; omega) _).drew
  refine ⟨g2, c, by rw [hlen], h1'.cells.2.1, h1'.lt, hglt, hg2, hlc, by omega, by omega, x0, x1, fun j => by simp [World.frozen?, hg], ⟨_, _, _, f0, f1, f2⟩, ?_⟩
  have hfin := ref_put hbq h1 hR hn hbase hBd hiw ⟨S, D, bs.set k y⟩ _ (ownB_lower' hst (by omega))
  simp only [World.setCell_drew] at hfin
  rw [World.setCell_alloc_past _ _ _ _ hg2, World.setCell_alloc_past _ _ _ _ (by simpa using hglt), World.setCell_alloc_past _ _ _ _ (by simpa using hglt), World.setCell_alloc_past _ _ _ _ (by simpa using hglt)] at hfin
  exact Lib.hid hfin

set_option maxRecDepth 100000 in
set_option maxHeartbeats 8000000 in
theorem refSpoil_calls (base q : Nat) (nodes : Int) (l : List Mail3) (w : World) (h : RefPost w base q nodes l) (hbase : base ≤ w.heap.size) (i : Nat) (m : Mail3) (hi : l[i]? = some m) (hroom : l.length ≤ 1000000000) (hl : m.bs.length ≤ 65536) (k : Nat) (hk : k < m.bs.length) (b : Nat) (hb : b < 256) :
    Calls Try.prog 17 #[.pointer (some ⟨q, 0, none⟩), .int .i64 (i : Nat), .int .i64 (k : Nat), .int .u8 (b : Nat)] w (RefSpoilt w base q nodes (l.set i ⟨m.src, m.dst, m.bs.set k (m.bs.getD k 0 ^^^ b)⟩)) := by
  obtain ⟨hbq, rv, ps, h1, rfl, hR⟩ := h
  rw [List.getElem?_map] at hi
  obtain ⟨x, hx, rfl⟩ := Option.map_eq_some_iff.1 hi
  have hil : i < ps.length := (List.getElem?_eq_some_iff.1 hx).1
  rw [List.length_map] at hroom
  obtain ⟨c0, c1, c2⟩ := h1.cells
  have hq := h1.lt
  obtain ⟨R, rc, rfl⟩ := hR.form
  obtain ⟨g, rfl, hbg, hglt, hnc, e0, e1, e2, hO, cur, hg⟩ := hR.cell rfl hx
  obtain ⟨⟨S, D, bs⟩, u⟩ := x
  simp only at e0 e1 e2 hO hk hl ⊢
  obtain ⟨A, cu, rfl⟩ := hO.bytes.form
  obtain ⟨n, hn⟩ : ∃ n, ps.length = n := ⟨_, rfl⟩
  obtain ⟨len, hlen⟩ : ∃ len, bs.length = len := ⟨_, rfl⟩
  rw [hn] at c1 hil hnc hroom h1 hR
  rw [hlen] at e2 hk hl hx
  obtain ⟨x, hxk⟩ : ∃ x, bs.getD k 0 = x := ⟨_, rfl⟩
  have hx256 : x < 256 := by rw [← hxk]; exact getD_lt hO.2 k
  have hxor := u8_xor_nat x b hx256 hb
  have hy : x ^^^ b < 256 := Nat.xor_lt_two_pow (n := 8) hx256 hb
  have hiI : (i : Int) < (n : Int) := by omega
  have hkI : (k : Int) < (len : Int) := by omega
  have CO := Lib.hid (own_spoil hbq h1 hR hn hbase (Below.refl w.heap.size w) hx hlen hl hk hy)
  rw [hxk] at CO ⊢
  obtain ⟨y, hyy⟩ : ∃ y, x ^^^ b = y := ⟨_, rfl⟩
  rw [hyy] at CO hxor ⊢
  clear h1 hR hn hx hi hO hg c2 hlen hxk hy hx256
  go_enter Try.func17, Try.ntmps17
  go_wp2_with fail
  refine CO.out.mono ?_
  rintro e W ⟨g2, c, rfl, k1, k2, k3, k4, k5, k6, k7, k8, k9, k10, ⟨u0, u1, u2, k11, k12, k13⟩, HFIN⟩
  have hne1 : g2 ≠ W.heap.size := by omega
  have hne2 : q ≠ W.heap.size := by omega
  have hne3 : g ≠ W.heap.size := by omega
  have z0 := k10 (i * 3)
  have z1 := k10 (i * 3 + 1)
  have z2 := k10 (i * 3 + 2)
  go_wp2_with fail
  clear e0 e1 e2 c0 c1 CO
  go_region_law (fail)
  all_goals
    go_wp2_with fail
    go_region_law (fail)
  all_goals
    go_wp2_with fail
    go_ret
    exact HFIN.out

end Go.Proofs.Ytjcgkjjomiapoaa.Mail
