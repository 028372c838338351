/-
  Contracts of millraceref05's Send and Twice.
-/
import Derived.Test.YtjcgkjjomiapoaaMailRef
import Derived.Deep.QuietTactic
import Derived.BigQuiet
namespace Go.Proofs.Ytjcgkjjomiapoaa.Mail
open Go Go.RowKit Go.Proofs.Ytjcgkjjomiapoaa.Law

set_option maxRecDepth 100000 in
set_option maxHeartbeats 4000000 in
theorem refSend_nodes (base q : Nat) (nodes : Int) (l : List Mail3) (w : World) (h : RefPost w base q nodes l) (a b : Int) (v : Value) (hn : ¬ ((0 ≤ a ∧ a < nodes) ∧ (0 ≤ b ∧ b < nodes))) :
    Calls Try.prog 10 #[.pointer (some ⟨q, 0, none⟩), mailV a b v] w (Refused w 1) := by
  obtain ⟨_, rv, ps, h1, _⟩ := h
  have HB := Lib.hid ((Below.refl w.heap.size w).alloc (Nat.le_refl _) (.cells #[.int .i64 a, .int .i64 b, v] 34))
  obtain ⟨c0, c1, _⟩ := h1.cells
  have hq := h1.lt
  clear h1
  rcases (show a < 0 ∨ (0 ≤ a ∧ b < 0) ∨ (0 ≤ a ∧ 0 ≤ b ∧ nodes ≤ a) ∨ (0 ≤ a ∧ 0 ≤ b ∧ a < nodes ∧ nodes ≤ b) by omega) with h | ⟨h, h2⟩ | ⟨h, h2, h3⟩ | ⟨h, h2, h3, h4⟩
  · have d1 : decide (a < 0) = true := decide_eq_true h
    clear hn
    go_enter Try.func10, Try.ntmps10
    go_wp2_with fail
    go_quiet (fail)
    go_wp2_with fail
    go_ret
    exact ⟨rfl, HB.out.trans ⟨rfl, rfl, rfl, Nat.le_refl _, fun _ _ => rfl⟩⟩
  · have d1 : decide (a < 0) = false := decide_eq_false (by omega)
    have d2 : decide (b < 0) = true := decide_eq_true h2
    clear hn
    go_enter Try.func10, Try.ntmps10
    go_wp2_with fail
    go_quiet (fail)
    go_wp2_with fail
    go_ret
    exact ⟨rfl, HB.out.trans ⟨rfl, rfl, rfl, Nat.le_refl _, fun _ _ => rfl⟩⟩
  · have d1 : decide (a < 0) = false := decide_eq_false (by omega)
    have d2 : decide (b < 0) = false := decide_eq_false (by omega)
    have d3 : decide (nodes ≤ a) = true := decide_eq_true h3
    clear hn
    go_enter Try.func10, Try.ntmps10
    go_wp2_with fail
    go_quiet (fail)
    go_wp2_with fail
    go_ret
    exact ⟨rfl, HB.out.trans ⟨rfl, rfl, rfl, Nat.le_refl _, fun _ _ => rfl⟩⟩
  · have d1 : decide (a < 0) = false := decide_eq_false (by omega)
    have d2 : decide (b < 0) = false := decide_eq_false (by omega)
    have d3 : decide (nodes ≤ a) = false := decide_eq_false (by omega)
    have d4 : decide (nodes ≤ b) = true := decide_eq_true h4
    clear hn
    go_enter Try.func10, Try.ntmps10
    go_wp2_with fail
    go_quiet (fail)
    go_wp2_with fail
    go_ret
    exact ⟨rfl, HB.out.trans ⟨rfl, rfl, rfl, Nat.le_refl _, fun _ _ => rfl⟩⟩

set_option maxRecDepth 100000 in
set_option maxHeartbeats 4000000 in
theorem refSend_long (base q : Nat) (nodes : Int) (l : List Mail3) (w : World) (h : RefPost w base q nodes l) (a b : Int) (ha : 0 ≤ a ∧ a < nodes) (hb : 0 ≤ b ∧ b < nodes) (A : Option Addr) (len cap : Nat) (hl : 65536 < len) (hl2 : len ≤ 9223372036854775807) :
    Calls Try.prog 10 #[.pointer (some ⟨q, 0, none⟩), mailV a b (.slice A len cap)] w (Refused w 2) := by
  obtain ⟨_, rv, ps, h1, _⟩ := h
  have HB := Lib.hid ((Below.refl w.heap.size w).alloc (Nat.le_refl _) (.cells #[.int .i64 a, .int .i64 b, .slice A len cap] 34))
  obtain ⟨c0, c1, _⟩ := h1.cells
  have hq := h1.lt
  have d1 : decide (a < 0) = false := decide_eq_false (by omega)
  have d2 : decide (b < 0) = false := decide_eq_false (by omega)
  have d3 : decide (nodes ≤ a) = false := decide_eq_false (by omega)
  have d4 : decide (nodes ≤ b) = false := decide_eq_false (by omega)
  clear h1 ha hb
  go_enter Try.func10, Try.ntmps10
  go_wp2_with fail
  go_quiet (fail)
  go_wp2_with fail
  go_ret
  exact ⟨rfl, HB.out.trans ⟨rfl, rfl, rfl, Nat.le_refl _, fun _ _ => rfl⟩⟩

def RefSent (w : World) (base q : Nat) (nodes : Int) (l : List Mail3) (e : Ending) (W : World) : Prop := e = .returned (.int .i64 0) ∧ RefPost W base q nodes l ∧ Frm isRef base w W

/-- What own leaves where a post's row is about to grow. -/
def OwnFor (w : World) (base q : Nat) (nodes : Int) (l : List Mail3) (rv : Value) (m : Mail3) (len n : Nat) (e : Ending) (W : World) : Prop :=
  ∃ A c A' c' W1, e = .returned (mailV m.src m.dst (.slice A len c)) ∧ W.cell? ⟨q, 1, none⟩ = some rv ∧ q < W.heap.size ∧
    Hid ((Builtin.append_ #[29, 29] 29 #[rv, .slice (some ⟨W.heap.size, 0, none⟩) 1 1]).run Try.prog (W.alloc (.cells #[.int .i64 m.src, .int .i64 m.dst, .slice A len c] 34)) = .ok (.slice A' (n + 1) c') W1) ∧
    W1.cell? ⟨q, 1, none⟩ = some rv ∧ W1.frozen? ⟨q, 1, none⟩ = false ∧ Hid (RefSent w base q nodes (l ++ [m]) (.returned (.int .i64 0)) (W1.setCell ⟨q, 1, none⟩ (.slice A' (n + 1) c')))

theorem own_for {w w0 : World} {base q : Nat} {nodes : Int} {rv : Value} {ps : List (Mail3 × Value)} {m : Mail3} {v : Value} {len n : Nat} (hb : base ≤ q) (h : RB w q nodes rv) (hR : RowR w base rv ps) (hbase : base ≤ w.heap.size) (hroom : ps.length ≤ 1000000000) (hn : ps.length = n) (hlen : m.bs.length = len)
    (hB : Below w.heap.size w w0) (hv : MailIs w0.heap.size w0 v m) (hl : m.bs.length ≤ 65536) :
    Calls Try.prog 28 #[v] w0 (OwnFor w base q nodes (ps.map (·.1)) rv m len n) := by
  subst hn hlen
  refine (own_calls m v w0 hv hl).mono ?_
  rintro e W ⟨v', rfl, hO, hBW⟩
  obtain ⟨A, c, rfl⟩ := hO.bytes.form
  have hB1 := hB.trans (hBW.mono hB.size)
  have hb2 := (Below.refl W.heap.size W).alloc (Nat.le_refl _) (.cells #[.int .i64 m.src, .int .i64 m.dst, .slice A m.bs.length c] 34)
  have h0 : RB W q nodes rv := (hB1.block q h.lt).trans h
  have h2 : RB (W.alloc (.cells #[.int .i64 m.src, .int .i64 m.dst, .slice A m.bs.length c] 34)) q nodes rv := (hb2.block q h0.lt).trans h0
  have hs : base ≤ w0.heap.size := Nat.le_trans hbase hB.size
  obtain ⟨A', c', W1, hrun, h3, h4, h5⟩ := ref_append hb h2 ((hR.below hB1).below hb2) (by have := hB1.size; simp; omega) 29 W.heap.size (.slice A m.bs.length c) m (heap_alloc_new W _) ((ownB_lower' hO hs).below hb2) hroom
  exact ⟨A, c, A', c', W1, rfl, h0.cells.2.1, h0.lt, Lib.hid hrun, h3.cells.2.1, h3.cells.2.2 1, Lib.hid ⟨rfl, h4, ((Frm.of_below hB1 hbase).then_below hb2 (by have := hB1.size; omega)).trans h5⟩⟩

set_option maxRecDepth 100000 in
set_option maxHeartbeats 8000000 in
theorem refSend_calls (base q : Nat) (nodes : Int) (l : List Mail3) (w : World) (h : RefPost w base q nodes l) (hbase : base ≤ w.heap.size) (a b : Int) (ha : 0 ≤ a ∧ a < nodes) (hb : 0 ≤ b ∧ b < nodes) (v : Value) (bs : List Nat) (hI : Bytes w.heap.size w v bs) (hl : bs.length ≤ 65536) (hroom : l.length ≤ 1000000000) :
    Calls Try.prog 10 #[.pointer (some ⟨q, 0, none⟩), mailV a b v] w (RefSent w base q nodes (l ++ [⟨a, b, bs⟩])) := by
  obtain ⟨hbq, rv, ps, h1, rfl, hR⟩ := h
  obtain ⟨A, cap, rfl⟩ := hI.form
  obtain ⟨len, hlen⟩ : ∃ len, bs.length = len := ⟨_, rfl⟩
  obtain ⟨c0, c1, c2⟩ := h1.cells
  have hq := h1.lt
  obtain ⟨w1, hw1⟩ : ∃ w1, w.alloc (.cells #[.int .i64 a, .int .i64 b, .slice A bs.length cap] 34) = w1 := ⟨_, rfl⟩
  have hB1 : Below w.heap.size w w1 := by rw [← hw1]; exact (Below.refl _ _).alloc (Nat.le_refl _) _
  have hx1 : Three w1 w.heap.size (.int .i64 a) (.int .i64 b) (.slice A bs.length cap) 34 := by rw [← hw1]; exact heap_alloc_new w _
  obtain ⟨n, hn⟩ : ∃ n, ps.length = n := ⟨_, rfl⟩
  have CO : ∀ d : Nat, Hid (Calls Try.prog 28 #[mailV a b (.slice A bs.length cap)] (w1.drewN d) (OwnFor w base q nodes (ps.map (·.1)) rv ⟨a, b, bs⟩ bs.length n)) := fun d =>
    own_for hbq h1 hR hbase (by simpa using hroom) hn rfl ⟨hB1.os, hB1.tape, hB1.output, hB1.size, hB1.block⟩ ⟨_, rfl, (hI.on hB1)⟩ hl
  have e1 := (hB1.cell (p := ⟨q, 1, none⟩) hq).trans c1
  have e0 := (hB1.cell (p := ⟨q, 0, none⟩) hq).trans c0
  obtain ⟨p0, p1, p2, -⟩ := hx1.cells
  have hq1 : q < w1.heap.size := Nat.lt_of_lt_of_le hq hB1.size
  have hw1l : w.heap.size < w1.heap.size := lt_of_at hx1
  have d1 : decide (a < 0) = false := decide_eq_false (by omega)
  have d2 : decide (b < 0) = false := decide_eq_false (by omega)
  have d3 : decide (nodes ≤ a) = false := decide_eq_false (by omega)
  have d4 : decide (nodes ≤ b) = false := decide_eq_false (by omega)
  obtain ⟨R, rc, rfl⟩ := hR.form
  rw [hn] at c1 e1 CO
  rw [hlen] at p2 CO hl hw1
  have HW1 := Lib.hid hw1
  have HLN := Lib.hid hlen
  rw [hlen]
  clear hw1 hlen hB1 hx1 hI h1 hR ha hb hroom hn c2
  go_enter Try.func10, Try.ntmps10
  go_upto_region 1 with fail
  rw [HW1.out]
  go_quiet (fail)
  go_wp2_with fail
  go_region_law (first
    | (go_simp; go_at_call 28; ((with_reducible refine (CO _).out.mono ?_)); rintro e W ⟨A2, c2, A3, c3, W3, rfl, k1, k2, HRUN, k4, k5, HFIN⟩)
    | (refine step_append_ran rfl _ _ _ rfl rfl rfl HRUN.out ?_))
  all_goals
    go_wp2_with fail
    go_ret
    exact HFIN.out

end Go.Proofs.Ytjcgkjjomiapoaa.Mail
