/-
  Contracts of slices.Values at pairs, its iterator, AppendSeq, Collect, SortedFunc; of the model's Order.
-/
import Derived.Test.YtmfndimejnbgkaaModelOrder
namespace Go.Proofs.Ytmfndimejnbgkaa.Model
open Go Go.RowKit Go.Lib Go.Sort Go.Shelf Go.Proofs.Ytmfndimejnbgkaa.Law Go.Proofs.Ytmfndimejnbgkaa.Graph Go.Proofs.Ytmfndimejnbgkaa.Fold

attribute [local go_sem] Oper.semAt_some

/-- A pair, as the one value that is handed on. -/
abbrev encsP (x : Pr) : Array Value := #[.agg #[.string x.key, .int .u32 (x.val : Nat)]]
/-- What a round keeps: one block. -/
def KeepB (r : Option Nat) (A B : World) : Prop := A.heap.size ≤ B.heap.size ∧ ∀ k, r = some k → k < A.heap.size → B.heap[k]? = A.heap[k]?
theorem KeepB.trans {r : Option Nat} {A B C : World} (h : KeepB r A B) (k : KeepB r B C) : KeepB r A C := ⟨Nat.le_trans h.1 k.1, fun j hj hl => (k.2 j hj (Nat.lt_of_lt_of_le hl h.1)).trans (h.2 j hj hl)⟩
/-- A row's one block. -/
theorem spotP {n : Nat} {W : World} {v : Value} {l : List Pr} (h : OldP n W v l) : ∃ r : Option Nat, (∀ k, r = some k → k < n) ∧ TwoAt pk pv (fun k => r = some k) W v l := by
  obtain ⟨A, cap, h1, h2, h3, h4⟩ := h
  by_cases hp : 0 < l.length
  · obtain ⟨b, off, e, hS, hc⟩ := h4 hp
    exact ⟨some b, fun k hk => by cases hk; exact hS, A, cap, h1, h2, h3, fun _ => ⟨b, off, e, rfl, hc⟩⟩
  · exact ⟨none, (fun k hk => by cases hk), A, cap, h1, h2, h3, fun h => absurd h hp⟩

set_option maxRecDepth 100000 in
set_option maxHeartbeats 4000000 in
theorem iterP_in (n : Nat) (hn : 2 ≤ n) (l Bx B0 : Nat) (r : Option Nat) (v : Value) (L : List Pr) (hlen : L.length * 24 ≤ 140737488355328) (J Jx : List Pr → World → Prop) (hJ : AbidesFrom B0 J)
    (hY : ∀ pre x W1, J pre W1 → True → (∃ k, pre ++ [x] = L.take k) → pre.length < L.length → YieldAt Fence.wide (n - 1) Try.prog l (encsP x) W1 fun e W' =>
      (e = .returned (.bool true) ∧ J (pre ++ [x]) W' ∧ KeepB r W1 W') ∨ (e = .returned (.bool false) ∧ Jx (pre ++ [x]) W'))
    (W : World) (hbx : W.heap[Bx]? = some (.cells #[v] 41)) (hO : TwoAt pk pv (fun k => r = some k ∧ k < W.heap.size) W v L) (h0 : J [] W) :
    CallsIn Fence.wide n Try.prog 117 #[.func (.yield l) #[] #[], .pointer (some ⟨Bx, 0, none⟩)] W fun e W' => (∃ v, e = .returned v) ∧
      ((∃ ys, ys = L ∧ J ys W') ∨ (∃ pre, (∃ k, pre = L.take k) ∧ Jx pre W')) := by
  have hn1 : 1 ≤ n := by omega
  obtain ⟨b0, b1⟩ := box1 hbx
  obtain ⟨A, cap, rfl, hcap⟩ := hO.form
  refine callsIn_of_wp Try.func117 rfl trivial ?_ rfl
  simp only [Try.ntmps117, List.size_toArray, List.length_cons, List.length_nil, Nat.reduceAdd, Nat.reduceSub, Array.replicate_succ, Array.replicate_zero, List.push_toArray, List.append_toArray, List.nil_append, List.cons_append]
  have HJ0 := Lib.hid h0
  have HY := Lib.hid hY
  have HO := Lib.hid hO
  obtain ⟨N, hN⟩ : ∃ N, L.length = N := ⟨_, rfl⟩
  have HN := Lib.hid hN
  rw [hN] at b0 hlen HO HY hcap
  have hNN : N ≤ 5864062014805 := by omega
  clear h0 hY hO hbx hN hlen
  gi_wp2_with fail
  gi_loopw [7] (fun i wr => ∃ k : Nat, i = .int .i64 k ∧ k ≤ N ∧ Hid (J (L.take k) wr) ∧ Hid (TwoAt pk pv (fun k => r = some k ∧ k < wr.heap.size) wr (.slice A N cap) L)) (fun i _ => N - (intOf i).toNat)
  case atStart => exact ⟨0, rfl, Nat.zero_le _, Lib.hid (by rw [List.take_zero]; exact HJ0.out), HO⟩
  case round =>
    obtain ⟨k, rfl, hk, HJk, HOk⟩ := hrel
    by_cases hlt : k < N
    · obtain ⟨x, hx⟩ : ∃ x, L[k]'(by rw [HN.out]; exact hlt) = x := ⟨_, rfl⟩
      have hxx : L[k]? = some x := by rw [← hx]; exact List.getElem?_eq_getElem _
      obtain ⟨g, off, rfl, ⟨hr, hg⟩, hc⟩ := HOk.out.at (by omega)
      obtain ⟨c0, c1⟩ := hc k x hxx
      obtain ⟨xo, xi⟩ := x
      dsimp only [pk, pv] at c0 c1
      have htk : L.take k ++ [(⟨xo, xi⟩ : Pr)] = L.take (k + 1) := by
        rw [List.take_succ_eq_append_getElem (by rw [HN.out]; exact hlt), hx]
      have hlk : (L.take k).length = k := by rw [List.length_take, HN.out]; omega
      have hB0 := (Below.refl wr.heap.size wr).alloc (Nat.le_refl _) (.cells #[.string xo, .int .u32 (xi : Nat)] 47)
      have hJm := hJ _ wr _ none HJk.out (grown_of_below hB0) (fun r e => by cases e)
      obtain ⟨fn, tmps, assign, body, hy, hRd⟩ := HY.out (L.take k) ⟨xo, xi⟩ _ hJm trivial ⟨_, htk⟩ (by rw [hlk]; exact hlt)
      have HOm := Lib.hid (HOk.out.keep (T := fun k => r = some k ∧ k < wr.heap.size) (W' := wr.alloc (.cells #[.string xo, .int .u32 (xi : Nat)] 47)) (fun j hj => Below.heap_alloc _ _ _ hj.2) (fun _ h => h))
      have HTK := Lib.hid htk
      have hltI : (k : Int) < (N : Int) := by omega
      have hncI : (N : Int) ≤ (cap : Int) := by omega
      clear hx hxx htk hlk hB0 hJm HJk HOk hc
      gi_wp2
      refine hRd.mono ?_
      rintro e W3 (⟨rfl, hJ3, hk3⟩ | ⟨rfl, hJx3⟩)
      · have HJ3 := Lib.hid hJ3
        have HO3 := Lib.hid (HOm.out.keep (T := fun k => r = some k ∧ k < W3.heap.size) (fun j hj => hk3.2 j hj.1 (by simp; omega)) (fun j hj => ⟨hj.1, by have := hk3.1; simp at this; omega⟩))
        clear hy hRd hk3 hJ3
        gi_wp2
        go_roundw
        case rel => exact ⟨k + 1, by go_num, by omega, Lib.hid (by rw [← HTK.out]; exact HJ3.out), HO3⟩
        case measure => simp [intOf]; omega
      · clear hy hRd
        gi_wp2
        refine bodyPost_ret (results_none rfl _ _ _) rfl ?_
        exact ⟨⟨_, rfl⟩, .inr ⟨_, ⟨_, HTK.out⟩, hJx3⟩⟩
    · obtain rfl : k = N := by omega
      have hall : J L wr := by
        have := HJk.out
        rwa [← HN.out, List.take_length] at this
      have HALL := Lib.hid hall
      have hltI : ¬ (k : Int) < (k : Int) := by omega
      clear hall
      gi_wp2
      go_end0
      exact ⟨⟨_, rfl⟩, .inl HALL.out⟩

/-- An append whose run is known, inside a fence. -/
theorem wpListIn_append_run {F : Fence} {n : Nat} {P : Program} {ops : Array Oper} {rest : List Oper} {o : Oper} {a : Act} {w w' : World} {Q : Exit → Act → World → Prop} (hgd : o.guard = none) (s x : Operand) (t : TypeId)
    (ho : o.op = .call { callee := .builtin .append, args := #[s, x], argTypes := #[t, t] }) {v sv v' : Value} (hs : a.eval s = v) (hx : a.eval x = sv) (hrun : (Builtin.append_ #[t, t] o.type #[v, sv]).run P w = .ok v' w')
    (h : wpListIn F n P ops Q rest (a.put o.dst v') w') : wpListIn F n P ops Q (o :: rest) a w := by
  refine wpListIn_plain hgd fun K hK' => ?_
  unfold Oper.wpIn
  refine ⟨?_, ?_⟩
  · simp [Oper.about, ho, resolve, Target.leads, Sem.run_pure]
  · rw [Oper.semAt_plain F _ _ (by rw [ho]; intro c hc'; cases hc')]
    simp only [execOp, ho, resolve, invoke, builtin, Sem.run_bind, Sem.run_pure, Result.andThen_ok, List.map_toArray, List.map_cons, List.map_nil, hs, hx, hrun]
    exact hK' _ _ h

theorem iterP_stops (n : Nat) (hn : 2 ≤ n) (Bx : Nat) (r : Option Nat) (v : Value) (L : List Pr) (hlen : L.length * 24 ≤ 140737488355328) (w : World) (hbx : w.heap[Bx]? = some (.cells #[v] 41)) (hO : TwoAt pk pv (fun k => r = some k ∧ k < w.heap.size) w v L) :
    SeqTold Fence.wide n Try.prog 117 #[.pointer (some ⟨Bx, 0, none⟩)] encsP (fun _ _ => True) (KeepB r) (fun ys => ys = L) (fun pre => ∃ k, pre = L.take k) L.length w := by
  intro l J Jx W hW hJ _ hY h0
  exact iterP_in n hn l Bx W.heap.size r v L hlen J Jx hJ (fun pre x W1 h1 h2 h3 h4 => hY pre x W1 h1 h2 h3 h4) W ((hW.block Bx (lt_of_some hbx)).trans hbx) (hO.keep (fun g hg => hW.block g hg.2) (fun g hg => ⟨hg.1, Nat.lt_of_lt_of_le hg.2 hW.size⟩)) h0

set_option maxRecDepth 100000 in
set_option maxHeartbeats 4000000 in
/-- AppendSeq onto nil, of a row's values: the row in new memory. -/
theorem appendSeq_in (n : Nat) (hn : 8 ≤ n) (Bx : Nat) (r : Option Nat) (v : Value) (L : List Pr) (hlen : L.length * 24 ≤ 140737488355328) (w : World) (hbx : w.heap[Bx]? = some (.cells #[v] 41)) (hr : ∀ k, r = some k → k < w.heap.size) (hO : TwoAt pk pv (fun k => r = some k) w v L) :
    CallsIn Fence.wide n Try.prog 138 #[.slice none 0 0, .func (.func 117) #[] #[.pointer (some ⟨Bx, 0, none⟩)]] w (RetP L w) := by
  have h1 : 1 ≤ n := by omega
  obtain ⟨w1, hw1⟩ : ∃ w1, w.alloc (.cells #[.slice none 0 0] 41) = w1 := ⟨_, rfl⟩
  have hB1 : Below w.heap.size w w1 := by rw [← hw1]; exact alloc_low _ _
  have hx : Boxed w1 w.heap.size 41 (.slice none 0 0) := by rw [← hw1]; exact Boxed.new w _ _
  have hs1 : w1.heap.size = w.heap.size + 1 := by rw [← hw1]; simp
  have hbl := lt_of_some hbx
  have HBX : Hid (w1.heap[Bx]? = some (.cells #[v] 41)) := Lib.hid ((hB1.block Bx hbl).trans hbx)
  have HO1 : Hid (TwoAt pk pv (fun k => r = some k ∧ k < w1.heap.size) w1 v L) := Lib.hid (hO.keep (fun k hk => hB1.block k (hr k hk)) (fun k hk => ⟨hk, by have := hr k hk; omega⟩))
  have HR := Lib.hid hr
  have HW1 := Lib.hid hw1
  have HX := Lib.hid hx
  have HB1 := Lib.hid hB1
  have HS1 := Lib.hid hs1
  clear hw1 hx hB1 hbx hO hr
  refine callsIn_of_wp_marks Try.func138 rfl trivial ?_ rfl
  simp only [Try.ntmps138, List.size_toArray, List.length_cons, List.length_nil, Nat.reduceAdd, Nat.reduceSub, Array.replicate_succ, Array.replicate_zero, List.push_toArray, List.append_toArray, List.nil_append, List.cons_append]
  gi_wp2_with fail
  rw [HW1.out]
  refine wpIn_rangeFunc_toldH rfl h1 (gf := 117) (lb := #[.pointer (some ⟨Bx, 0, none⟩)]) rfl trivial (enters_of Try.func117 (by kernel_rfl) rfl)
      (iterP_stops (n - 1) (by omega) Bx r v L hlen w1 HBX.out HO1.out) KeepB.trans
      (fun W l o o' hl hlo _ _ => ⟨by simp, fun k hk _ => World.putObj_heap_other (fun e => by have := HR.out k hk; have := HS1.out; omega)⟩) (Below.refl _ _) (fun _ => rfl)
      (fun pre W => (∃ u, Boxed W w.heap.size 41 u ∧ W.ownsRow (w.heap.size + 1) 47 2 u pre.length (flat2 pk pv pre) ∧ True) ∧ Below w.heap.size w W)
      (fun _ _ _ => False)
      (OwnFrom.and ((holdsRow_own (w.heap.size + 1) w.heap.size 41 47 2 (fun pre : List Pr => pre.length) (fun pre : List Pr => flat2 pk pv pre) (fun _ _ => True)).from _) (ownFrom_below (Nat.le_refl _) HB1.out.size))
      (fun _ _ _ _ _ hs _ _ => hs) (fun _ _ _ _ _ _ _ _ => trivial) ⟨⟨_, HX.out, World.ownsRow_nil _ _ _ _, trivial⟩, HB1.out⟩ (fun _ hg => ⟨hg.size, fun k _ hlt => hg.block k hlt (by simp)⟩)
      (fun x a' W => ∃ Bc, W.heap[Bc]? = some (prObj x) ∧ a' = { tmps := #[.slice none 0 0, .func (.func 117) #[] #[.pointer (some ⟨Bx, 0, none⟩)], .pointer (some ⟨w.heap.size, 0, none⟩), undef, .slice none 0 0, .pointer (some ⟨Bc, 0, none⟩), .func (.func 117) #[] #[.pointer (some ⟨Bx, 0, none⟩)], .agg #[.string x.key, .int .u32 (x.val : Nat)], undef, undef, undef, undef, undef], defers := [] })
      (fun x a' _ A B row hs hg hr => by
        obtain ⟨Bc, h3, h4⟩ := hs
        refine ⟨Bc, (hg.block _ (Array.getElem?_eq_some_iff.1 h3).1 (fun e => ?_)).trans h3, h4⟩
        obtain ⟨_, o, ho, hc⟩ := hr _ e.symm
        rw [h3] at ho
        cases ho
        cases hc)
      ?assign ?body ?done ?stop
  case stop =>
    rintro D c pre W hD - hF
    exact hF.elim
  case assign =>
    intro l pre x W K hI _ hK
    obtain ⟨xo, xi⟩ := x
    gi_wp2
    exact hK _ _ (World.grownBy_alloc _ _ _) ⟨W.heap.size, heap_alloc_new W _, rfl⟩
  case body =>
    rintro l pre ⟨xo, xi⟩ a' W ⟨⟨u, hu, hrow, -⟩, hB⟩ - ⟨Bc, hBc, rfl⟩ - hlt
    have hO : OwnP W (w.heap.size + 1) u pre := hrow
    have hul := hu.lt
    obtain ⟨A4, c4, W4, R4, O4, G4, hc4⟩ := hO.put (by omega) ⟨xo, xi⟩ 41 (by omega)
    obtain ⟨m, hm⟩ : ∃ m, pre.length = m := ⟨_, rfl⟩
    rw [hm] at R4 O4 hc4
    obtain ⟨k0, k1⟩ := boxP hBc
    have hc := hu.cell
    have hne : some w.heap.size ≠ u.ownBlock := ownP_lt hO (by omega)
    have hu4 : Boxed W4 w.heap.size 41 u := hu.kept G4 hne
    have hf4 := hu4.frozen
    have hc4' := hu4.cell
    obtain ⟨W5, hW5⟩ : ∃ W5, W4.setCell ⟨w.heap.size, 0, none⟩ (.slice A4 (m + 1) c4) = W5 := ⟨_, rfl⟩
    have hG5 : W4.grownBy W5 (some w.heap.size) := by rw [← hW5]; exact grownBy_setCell' _ _ _
    have hu5 : Boxed W5 w.heap.size 41 (.slice A4 (m + 1) c4) := by rw [← hW5]; exact hu4.set _
    have hO5 : OwnP W5 (w.heap.size + 1) (.slice A4 (m + 1) c4) (pre ++ [⟨xo, xi⟩]) := O4.keep fun g hg => hG5.block g (O4.own hg).2 (fun e => by have := (O4.own hg).1; cases e; omega)
    have hBB : Below w.heap.size w W5 := (hB.grown G4 (by omega) (fun k hk => by have := (hO.own hk).1; omega)).grown hG5 (by have := G4.size; omega) (fun k hk => by cases hk; exact Nat.le_refl _)
    have hKO : KeepsOthers W W5 := (KeepsOthers.of_grownBy G4 (fun j o hj ho => by
      rcases hO.2 with ⟨h0, _⟩ | ⟨g, cap, cur, h0, _, hgb, _⟩
      · rw [h0] at hj; cases hj
      · rw [h0] at hj
        obtain rfl : g = j := by simpa [Value.ownBlock] using hj
        rw [hgb] at ho; cases ho; rfl)).trans (by rw [← hW5]; exact KeepsOthers.setCell _ _ _)
    have hKB : KeepB r W W5 := ⟨Nat.le_trans G4.size hG5.size, fun k hk _ => by
      have h1 := HR.out k hk
      exact (hG5.block k (by have := G4.size; omega) (fun e => by cases e; omega)).trans (G4.block k (by omega) (ownP_lt hO (by omega)))⟩
    have HR4 := Lib.hid R4
    have HF : Hid (KeepsOthers W W5 ∧ KeepB r W W5 ∧ (∃ u, Boxed W5 w.heap.size 41 u ∧ W5.ownsRow (w.heap.size + 1) 47 2 u (pre ++ [(⟨xo, xi⟩ : Pr)]).length (flat2 pk pv (pre ++ [⟨xo, xi⟩])) ∧ True) ∧ Below w.heap.size w W5) := Lib.hid ⟨hKO, hKB, ⟨_, hu5, hO5, trivial⟩, hBB⟩
    have HW5 := Lib.hid hW5
    clear hu hrow hB hBc hO R4 O4 G4 hc4 hne hu4 hW5 hG5 hu5 hO5 hBB hKO hKB
    gi_wp2_with (gi_at_builtin; refine wpListIn_append_run rfl _ _ _ rfl rfl rfl HR4.out ?_)
    rw [HW5.out]
    exact ⟨HF.out.1, HF.out.2.1, (by obtain ⟨⟨u, h1, h2, _⟩, h3⟩ := HF.out.2.2; exact ⟨⟨u, h1, h2⟩, h3⟩)⟩
  case done =>
    rintro D ys W hD rfl ⟨⟨u, hu, hrow, -⟩, hB⟩ hK
    have hO : OwnP W (w.heap.size + 1) u ys := hrow
    have hc := hu.cell
    have hK2 := hK
    have HO := Lib.hid hO
    have HB := Lib.hid hB
    clear hrow hO hu
    gi_wp2
    refine ⟨by simp, .inl ⟨_, _, rfl, run_takeDeferred hK, ?_⟩⟩
    have hneD : ∀ g, u.ownBlock = some g → g ≠ D := fun g hg e => by
      subst e
      rcases HO.out.2 with ⟨h0, _⟩ | ⟨g', cap, cur, h0, _, hgb, _⟩
      · rw [h0] at hg; cases hg
      · rw [h0] at hg
        obtain rfl : g' = g := by simpa [Value.ownBlock] using hg
        rw [hgb] at hK2; cases hK2
    exact ⟨_, results_tmp rfl _ _ _, _, rfl, (HO.out.keep (W' := W.putObj D (.deferred none)) fun g hg => World.putObj_heap_other (hneD g hg)).base (by omega), HB.out.trans (belowK_b (w := w) (Nat.le_refl _) W D _ _ (by have := HS1.out; omega) hK2 rfl rfl)⟩

set_option maxRecDepth 100000 in
set_option maxHeartbeats 1000000 in
theorem collect_in (n : Nat) (hn : 9 ≤ n) (Bx : Nat) (r : Option Nat) (v : Value) (L : List Pr) (hlen : L.length * 24 ≤ 140737488355328) (w : World) (hbx : w.heap[Bx]? = some (.cells #[v] 41)) (hr : ∀ k, r = some k → k < w.heap.size) (hO : TwoAt pk pv (fun k => r = some k) w v L) :
    CallsIn Fence.wide n Try.prog 115 #[.func (.func 117) #[] #[.pointer (some ⟨Bx, 0, none⟩)]] w (RetP L w) := by
  have h1 : 1 ≤ n := by omega
  have CA := Lib.hid (appendSeq_in (n - 1) (by omega) Bx r v L hlen w hbx hr hO)
  clear hbx hr hO hlen
  refine callsIn_of_wp Try.func115 rfl trivial ?_ rfl
  simp only [Try.ntmps115, List.size_toArray, List.length_cons, List.length_nil, Nat.reduceAdd, Nat.reduceSub, Array.replicate_succ, Array.replicate_zero, List.push_toArray, List.append_toArray, List.nil_append, List.cons_append]
  gi_wp2_with fail
  refine ⟨trivial, ?_⟩
  refine CA.out.mono ?_
  rintro e w' ⟨u, rfl, hO, hB⟩
  gi_wp2
  go_ret
  exact ⟨u, rfl, hO, hB⟩

theorem collect_calls (Bx : Nat) (r : Option Nat) (v : Value) (L : List Pr) (hlen : L.length * 24 ≤ 140737488355328) (w : World) (hbx : w.heap[Bx]? = some (.cells #[v] 41)) (hr : ∀ k, r = some k → k < w.heap.size) (hO : TwoAt pk pv (fun k => r = some k) w v L) :
    Calls Try.prog 115 #[.func (.func 117) #[] #[.pointer (some ⟨Bx, 0, none⟩)]] w (RetP L w) := callsIn_wide.1 (collect_in 9 (Nat.le_refl _) Bx r v L hlen w hbx hr hO)

theorem values_calls (A : Option Addr) (m c : Nat) (w : World) : Calls Try.prog 69 #[.slice A m c] w fun e W => e = .returned (.func (.func 117) #[] #[.pointer (some ⟨w.heap.size, 0, none⟩)]) ∧ W = w.alloc (.cells #[.slice A m c] 41) := by
  go_enter Try.func69, Try.ntmps69
  go_wp2_with fail
  go_ret
  exact ⟨rfl, rfl⟩

theorem sortP_calls (blk off cap : Nat) (d : Array Pr) (w : World) (hH : HoldsK encP 2 w blk off d) (hblk : blk < w.heap.size) (hsz : d.size < 4611686018427387904) :
    Calls Try.prog 116 #[.slice (some ⟨blk, off, none⟩) d.size cap, .func (.func 70) #[] #[]] w fun e w' => e = .returned (.tuple #[]) ∧ ∃ d' n os, PermIn 0 d.size d d' ∧ SortedIn (ltOf cmpP) 0 d.size d' ∧ w' = sortWorldK encP 2 w blk off n d' os := by
  have eg : ∀ args w, (callFunc 70 args).run Try.prog w = .ok (.enter 70 args) w := enters_of Try.func70 (by kernel_rfl) rfl
  have hcon := AnyQ.slices_SortFunc Try.sortPair 2 Try.isAgg47 Try.sizeOf47 encP (fun _ => rfl) (fun x v hv => by simp [encP] at hv; rcases hv with rfl | rfl <;> rfl) cmpP swoP 70 #[] blk off cap d w eg (fun _ _ _ _ x y => closureP x y _) hH hblk hsz
  change Calls Try.prog 116 _ _ _ at hcon
  exact hcon

theorem flatP_get : ∀ (l : List Pr) (t : Nat), t < l.length * 2 → (flat2 pk pv l)[t]? = some ((encP (l.toArray[t / 2]!))[t % 2]!)
  | [], t, h => by simp at h
  | x :: r, t, h => by
    by_cases h5 : t < 2
    · have e1 : t / 2 = 0 := by omega
      have e2 : t % 2 = t := by omega
      rw [e1, e2]
      match t, h5 with
      | 0, _ => rfl
      | 1, _ => rfl
    · obtain ⟨u, rfl⟩ : ∃ u, t = u + 2 := ⟨t - 2, by omega⟩
      have e1 : (u + 2) / 2 = u / 2 + 1 := by omega
      have e2 : (u + 2) % 2 = u % 2 := by omega
      rw [e1, e2]
      have := flatP_get r u (by simp only [List.length_cons] at h; omega)
      have e3 : (x :: r).toArray[u / 2 + 1]! = r.toArray[u / 2]! := by simp
      rw [e3]
      show (flat2 pk pv r)[u]? = _
      exact this
theorem flatKP_toList (l : List Pr) : (flatK encP 2 l.toArray).toList = flat2 pk pv l := by
  apply List.ext_getElem?
  intro t
  by_cases h : t < l.length * 2
  · rw [flatP_get l t h]
    have hs : t < (flatK encP 2 l.toArray).size := by rw [size_flatK]; simpa using h
    have := get_flatK encP 2 l.toArray t (by simpa using h)
    rw [getElem!_pos _ t hs] at this
    rw [Array.getElem?_toList, Array.getElem?_eq_getElem hs, this]
  · rw [List.getElem?_eq_none (by rw [Array.length_toList, size_flatK]; simp; omega), List.getElem?_eq_none (by rw [flat2_length]; omega)]

theorem take_putCells_id (cur F : Array Value) (h : F.size ≤ cur.size) : (putCells id 0 F cur).toList.take F.size = F.toList := by
  apply List.ext_getElem?
  intro j
  by_cases hj : j < F.size
  · rw [List.getElem?_take_of_lt hj, Array.getElem?_toList]
    simp [putCells, hj, show j < cur.size by omega]
  · rw [List.getElem?_take_eq_none (by omega), List.getElem?_eq_none (by simp; omega)]
/-- A row of the call's own, sorted. -/
theorem OwnP.sort {W : World} {base : Nat} {v : Value} {l : List Pr} (h : OwnP W base v l) (hlen : l.length * 24 ≤ 140737488355328) :
    Calls Try.prog 116 #[v, .func (.func 70) #[] #[]] W fun e W' => e = .returned (.tuple #[]) ∧ OwnP W' base v (ordN l) ∧ W.grownBy W' v.ownBlock := by
  by_cases h0 : l.length = 0
  · obtain ⟨A, cap, rfl, _⟩ := h.form
    have hl : l = [] := List.eq_nil_of_length_eq_zero h0
    subst hl
    have hcon := AnyF.slices_SortFunc_none (P := Try.prog) (ρ := _) { Try.sortPair with } A cap (.func (.func 70) #[] #[]) W
    change Calls Try.prog 116 _ _ _ at hcon
    refine hcon.mono ?_
    rintro e W' ⟨rfl, rfl⟩
    exact ⟨rfl, by rw [show ordN [] = [] by simp [ordN]]; exact h, rfl, rfl, rfl, Nat.le_refl _, fun _ _ _ => rfl⟩
  · rcases h.2 with ⟨_, h1⟩ | ⟨g, cap, cur, rfl, hbg, hg, hn, hcm, hcs, ht⟩
    · exact absurd h1 h0
    · have hgl := (Array.getElem?_eq_some_iff.1 hg).1
      have hH : HoldsK encP 2 W g 0 l.toArray := by
        intro t ht'
        have ht2 : t < l.length * 2 := by simpa using ht'
        refine ⟨?_, by simp [World.frozen?, hg]⟩
        have h1 : (cur.toList.take (l.length * 2))[t]? = (flat2 pk pv l)[t]? := by rw [ht]
        rw [List.getElem?_take_of_lt ht2, ← flatKP_toList, Array.getElem?_toList, Array.getElem?_toList] at h1
        have hs : t < (flatK encP 2 l.toArray).size := ht'
        simp only [World.cell?, hg, Nat.zero_add, Option.isSome_none, Bool.false_eq_true, if_false]
        rw [h1, Array.getElem?_eq_getElem hs, getElem!_pos _ t hs]
        rfl
      have hcon := sortP_calls g 0 cap l.toArray W hH hgl (by simp; omega)
      simp only [List.size_toArray] at hcon
      refine hcon.mono ?_
      rintro e W' ⟨rfl, d', n, os, hperm, hsort, rfl⟩
      obtain ⟨hsz, _, hpp⟩ := hperm
      have hsz' : d'.size = l.length := by simpa using hsz
      have e1 : d'.extract 0 l.length = d' := by rw [← hsz']; simp
      have e2 : l.toArray.extract 0 l.length = l.toArray := by
        have : l.length = l.toArray.size := by simp
        rw [this]; simp
      rw [e1, e2] at hpp
      have hsorted : Ordered d'.toList := by
        unfold Ordered
        rw [List.pairwise_iff_getElem]
        intro i j hi hj hij
        have := hsort i j (Nat.zero_le _) hij (by rw [Array.length_toList] at hj; omega)
        rw [ltPc, getElem!_pos d' i (by rw [Array.length_toList] at hi; exact hi), getElem!_pos d' j (by rw [Array.length_toList] at hj; exact hj)] at this
        simpa using this
      have hdm : d'.toList = ordN l := ordN_of hpp hsorted
      have hml : (ordN l).length = l.length := ordN_length l
      have hda : d' = (ordN l).toArray := by rw [← hdm]
      refine ⟨rfl, ⟨by rw [flat2_length], .inr ⟨g, cap, putCells id 0 (flatK encP 2 d') cur, by rw [hml], hbg, ?_, by omega, hcm, by simp [putCells, hcs], ?_⟩⟩, rfl, rfl, rfl, ?_, fun k hk hne => ?_⟩
      · unfold sortWorldK putRowK
        rw [Go.Sort.heap_grow_old _ _ (by simp [putRow, mapBlock, Sort.ahead]; exact hgl)]
        simp [putRow, mapBlock, Sort.ahead, Array.getElem?_modify, hg, onCells]
      · have hFs : (flatK encP 2 d').size = (ordN l).length * 2 := by rw [size_flatK, hsz', hml]
        rw [← hFs, take_putCells_id _ _ (by rw [hFs, hcs, hml]; exact Nat.mul_le_mul_right 2 hn), hda, flatKP_toList]
      · simp [sortWorldK, putRowK, putRow, mapBlock, Sort.ahead, grow]
      · unfold sortWorldK putRowK
        rw [Go.Sort.heap_grow_old _ _ (by simp [putRow, mapBlock, Sort.ahead]; exact hk)]
        have : g ≠ k := fun e => hne (by simp [Value.ownBlock, e])
        simp [putRow, mapBlock, Sort.ahead, Array.getElem?_modify, this]

set_option maxRecDepth 100000 in
set_option maxHeartbeats 1000000 in
theorem sortedFunc_calls (Bx : Nat) (r : Option Nat) (v : Value) (L : List Pr) (hlen : L.length * 24 ≤ 140737488355328) (w : World) (hbx : w.heap[Bx]? = some (.cells #[v] 41)) (hr : ∀ k, r = some k → k < w.heap.size) (hO : TwoAt pk pv (fun k => r = some k) w v L) :
    Calls Try.prog 68 #[.func (.func 117) #[] #[.pointer (some ⟨Bx, 0, none⟩)], .func (.func 70) #[] #[]] w (RetP (ordN L) w) := by
  have CC := Lib.hid (collect_calls Bx r v L hlen w hbx hr hO)
  have HL := Lib.hid hlen
  clear hbx hr hO hlen
  go_enter Try.func68, Try.ntmps68
  go_wp2_with fail
  refine CC.out.mono ?_
  rintro e w1 ⟨u, rfl, hO, hB⟩
  have CS := Lib.hid (hO.sort HL.out)
  obtain ⟨A, cap, rfl, _⟩ := hO.form
  have HO := Lib.hid hO
  have HB := Lib.hid hB
  clear hO hB
  go_wp2_with fail
  refine CS.out.mono ?_
  rintro e w2 ⟨rfl, hO2, hG2⟩
  have HF : Hid (RetP (ordN L) w (.returned (.slice A L.length cap)) w2) := Lib.hid ⟨_, rfl, hO2, grown_below HB.out hG2 HO.out (Nat.le_refl _) HB.out.size⟩
  clear hO2 hG2
  go_wp2_with fail
  go_ret
  exact HF.out

set_option maxRecDepth 100000 in
set_option maxHeartbeats 1000000 in
theorem order_calls (l : List Pr) (hlen : l.length * 24 ≤ 140737488355328) (v : Value) (w : World) (h : OldP w.heap.size w v l) : Calls Try.prog 35 #[v] w (RetP (ordN l) w) := by
  obtain ⟨r, hr, hO⟩ := spotP h
  obtain ⟨A, cap, rfl, _⟩ := h.form
  obtain ⟨m, hm⟩ : ∃ m, l.length = m := ⟨_, rfl⟩
  rw [hm] at hO h ⊢
  obtain ⟨w1, hw1⟩ : ∃ w1, w.alloc (.cells #[.slice A m cap] 41) = w1 := ⟨_, rfl⟩
  have hB1 : Below w.heap.size w w1 := by rw [← hw1]; exact alloc_low _ _
  have hbx : w1.heap[w.heap.size]? = some (.cells #[.slice A m cap] 41) := by rw [← hw1]; exact heap_alloc_new w _
  have CS := Lib.hid (sortedFunc_calls w.heap.size r (.slice A m cap) l hlen w1 hbx (fun k hk => Nat.lt_of_lt_of_le (hr k hk) hB1.size) (hO.keep (fun k hk => hB1.block k (hr k hk)) (fun _ h => h)))
  have CV := Lib.hid (values_calls A m cap w)
  have HB1 := Lib.hid hB1
  have HW1 := Lib.hid hw1
  clear h hr hO hw1 hB1 hbx hm hlen
  go_enter Try.func35, Try.ntmps35
  go_wp2_with fail
  refine CV.out.mono ?_
  rintro e w' ⟨rfl, rfl⟩
  rw [HW1.out]
  go_wp2_with fail
  refine CS.out.mono ?_
  rintro e w2 ⟨u, rfl, hO, hB⟩
  have HF : Hid (RetP (ordN l) w (.returned u) w2) := Lib.hid ⟨_, rfl, hO.base HB1.out.size, HB1.out.trans (hB.mono HB1.out.size)⟩
  clear hO hB
  go_wp2_with fail
  go_ret
  exact HF.out

end Go.Proofs.Ytmfndimejnbgkaa.Model
