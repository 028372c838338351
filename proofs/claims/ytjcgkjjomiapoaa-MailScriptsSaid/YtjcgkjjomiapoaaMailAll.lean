/-
  Contracts of slices.Clone at messages and of mail's iterator All: it hands on the messages that were on their way when it began, each with its data in new memory.
-/
import Derived.OwnWalkIn
import Derived.TacticsInMore
import Derived.LoopNIn
import Derived.LoopIn
import Derived.Shelf.Abstract
import Derived.Shelf.RegionOpen
import Derived.Lib.SliceRun
import Derived.Test.YtjcgkjjomiapoaaTold
import Derived.Test.YtjcgkjjomiapoaaMailKnown
namespace Go.Proofs.Ytjcgkjjomiapoaa.Mail
open Go Go.RowKit Go.Shelf Go.Proofs.Ytjcgkjjomiapoaa.Law

attribute [local go_sem] Oper.semAt_some

/-- What Clone leaves. -/
def ClonedM (w : World) (ms : List Msg) (e : Ending) (W : World) : Prop := ∃ v, e = .returned v ∧ Seg W w.heap.size 68 3 v ms.length (flatM ms) ∧ Below w.heap.size w W

theorem clone_append {w : World} {base n cap : Nat} {A : Addr} {ms : List Msg} (hn : ms.length = n) (hO : Seg w base 68 3 (.slice (some A) n cap) n (flatM ms)) (hroom : ms.length * 32 ≤ 140737488355328) (ty : TypeId) :
    ∃ v W', (Builtin.append_ #[63, 63] ty #[.slice (some ⟨w.heap.size, 0, none⟩) 0 0, .slice (some A) n cap]).run Try.prog (w.alloc (.cells #[] 68)) = .ok v W' ∧ Seg W' w.heap.size 68 3 v n (flatM ms) ∧ Below w.heap.size w W' := by
  subst hn
  obtain ⟨i0, hi, hz0, hz1, hz2⟩ := info_parts info_message
  have hg0 : (w.alloc (.cells #[] 68)).heap[w.heap.size]? = some (.cells #[] 68 (0, 0)) := heap_alloc_new w _
  have hE : Seg (w.alloc (.cells #[] 68)) w.heap.size 68 3 (.slice (some ⟨w.heap.size, 0, none⟩) 0 0) 0 [] :=
    ⟨rfl, .inr ⟨w.heap.size, 0, 0, #[], rfl, Nat.le_refl _, hg0, Nat.le_refl _, by simp [maxLen], by simp, by simp⟩⟩
  have hB0 : Below w.heap.size w (w.alloc (.cells #[] 68)) := (Below.refl _ _).alloc (Nat.le_refl _) _
  by_cases h0 : ms.length = 0
  · obtain rfl : ms = [] := List.eq_nil_of_length_eq_zero h0
    have hr := run_append_room_off (P := Try.prog) (w.alloc (.cells #[] 68)) 63 ty 68 i0 Try.underlying63 hi w.heap.size 0 0 0 #[] hg0 A 0 cap [] (by simp) (by simp) (by simp) (by simp) (by simp)
    have e : ((#[] : Array Value).toList.take (0 + 0 * i0.size) ++ ([] : List Value) ++ (#[] : Array Value).toList.drop (0 + 0 * i0.size + ([] : List Value).length)).toArray = #[] := by simp
    rw [e] at hr
    refine ⟨_, _, hr, ?_, ?_⟩
    · refine ⟨rfl, .inr ⟨w.heap.size, 0, 0, #[], rfl, Nat.le_refl _, setRow_heap _ _ _ _ _ _ hg0, Nat.le_refl _, by simp [maxLen], by simp, by simp [flatM]⟩⟩
    · exact hB0.trans ((Below.refl _ _).grown (setRow_by _ _ _) (by simp) (fun k hk => by simp only [Option.some.injEq] at hk; omega))
  · have hcell : ∀ j u, (flatM ms)[j]? = some u → (w.alloc (.cells #[] 68)).cell? (A.add j) = some u := by
      obtain ⟨g, o, cur, hA, _, hg, _⟩ := hO.at (by omega)
      simp only [Option.some.injEq] at hA
      subst hA
      intro j u hu
      rw [Addr.add_lit, hB0.cell (lt_of_at hg)]
      exact (hO.cell hu).1
    obtain ⟨v', W', hrun, h2, h3, h5⟩ := Seg.append (P := Try.prog) ty Try.underlying63 hi hz0 hz1 hz2 rfl hE A ms.length cap (by omega) (flatM ms) (flatM_length ms) hcell (flatM_one ms) (by simp only [maxLen]; omega) (by omega) (by simp)
    rw [Nat.zero_add, List.nil_append] at h2
    refine ⟨v', W', hrun, h2, hB0.trans ((Below.refl _ _).grown h3 (by simp) (fun k hk => ?_))⟩
    simp only [Value.ownBlock, Option.some.injEq] at hk
    omega

set_option maxRecDepth 100000 in
set_option maxHeartbeats 2000000 in
theorem clone_calls (base : Nat) (v : Value) (ms : List Msg) (w : World) (hO : Seg w base 68 3 v ms.length (flatM ms)) (hroom : ms.length * 32 ≤ 140737488355328) :
    Calls Try.prog 35 #[v] w (ClonedM w ms) := by
  obtain ⟨A, cap, rfl, _⟩ := hO.form
  obtain ⟨n, hn⟩ : ∃ n, ms.length = n := ⟨_, rfl⟩
  rw [hn] at hO ⊢
  have q22 : ∀ (w : World) (a : Option Addr) (n c n' c' : Nat), (binOp .eql 63 (.slice a n c) (.slice none n' c')).run Try.prog w = .ok (.bool a.isNone) w := fun w a n c n' c' => Lib.run_eql_slice_nil w _ _ a n c n' c' Try.underlying63
  cases A with
  | none =>
    have h0 : n = 0 := by
      rcases hO.2 with ⟨_, h⟩ | ⟨g, o, cap', cur, hv, _⟩
      · exact h
      · cases hv
    have HFIN : Hid (ClonedM w ms (.returned (.slice none 0 0)) w) := by
      refine ⟨_, rfl, ?_, Below.refl _ _⟩
      have : ms = [] := List.eq_nil_of_length_eq_zero (by omega)
      subst this
      exact Seg.nil _ _ _ _
    clear hO hn h0
    go_enter Try.func35, Try.ntmps35
    go_wp2_with fail
    go_ret
    exact HFIN.out
  | some a =>
    obtain ⟨v', W', hrun, h1, h2⟩ := clone_append hn hO hroom 63
    have HRUN := Lib.hid hrun
    have HFIN : Hid (ClonedM w ms (.returned v') W') := ⟨v', rfl, by rw [hn]; exact h1, h2⟩
    clear hrun h1 h2 hO hn
    go_enter Try.func35, Try.ntmps35
    go_wp2_with (at_builtin; refine wpList_append_ran rfl _ _ _ rfl rfl rfl HRUN.out ?_)
    go_ret
    exact HFIN.out

/-- What All hands back: a function value that has captured a box of its own, in which the post's pointer lies. -/
def AllSays (w : World) (p : Option Addr) (e : Ending) (W : World) : Prop :=
  e = .returned (.func (.func 34) #[] #[.pointer (some ⟨w.heap.size, 0, none⟩)]) ∧ Boxed W w.heap.size 24 (.pointer p) ∧ Below w.heap.size w W

set_option maxRecDepth 100000 in
theorem all_calls (p : Option Addr) (w : World) : Calls Try.prog 24 #[.pointer p] w (AllSays w p) := by
  go_enter Try.func24, Try.ntmps24
  go_wp2_with fail
  go_ret
  exact ⟨rfl, Boxed.new w 24 _, (Below.refl _ _).alloc (Nat.le_refl _) _⟩

/-- A message that is handed on: its data as a slice, and itself. -/
abbrev Piece := Value × Msg
def msgsOf (ps : List Piece) : List Msg := ps.map (·.2)
theorem msgsOf_snoc (ps : List Piece) (x : Piece) : msgsOf (ps ++ [x]) = msgsOf ps ++ [x.2] := by simp [msgsOf]
theorem msgsOf_length (ps : List Piece) : (msgsOf ps).length = ps.length := by simp [msgsOf]

def Fine (base : Nat) (x : Piece) (W : World) : Prop := Given W base x.1 (bytesOf x.2.s)
theorem given_kept {W W' : World} {row : Option Nat} {base : Nat} {v : Value} {bs : List Nat} (h : Given W base v bs) (hg : W.grownBy W' row) (hr : ∀ r, row = some r → ∃ o, W.heap[r]? = some o ∧ o.isCells = false) : Given W' base v bs := by
  obtain ⟨h0, g, cap, cur, hv, hb, hh, h1⟩ := h
  refine ⟨h0, g, cap, cur, hv, hb, (hg.block g (lt_of_at hh) (fun e => ?_)).trans hh, h1⟩
  obtain ⟨o, ho, hc⟩ := hr g e.symm
  rw [hh] at ho
  cases ho
  cases hc
theorem fine_own (base : Nat) : Own (fun (x : Piece) W => Fine base x W) := fun _ _ _ _ hs hg hr => given_kept hs hg hr

/-- Each piece's data lies in a later block than those ahead of it. -/
def Asc (ps : List Piece) : Prop := ps.Pairwise fun x y => ∀ a b, x.1.ownBlock = some a → y.1.ownBlock = some b → a < b
theorem Asc.snoc {ps : List Piece} {x : Piece} {n₀ : Nat} (h : Asc ps) (hl : ∀ y ∈ ps, ∀ b, y.1.ownBlock = some b → b < n₀) (hx : ∀ b, x.1.ownBlock = some b → n₀ ≤ b) : Asc (ps ++ [x]) := by
  unfold Asc
  rw [List.pairwise_append]
  refine ⟨h, by simp, fun y hy z hz a b ha hb => ?_⟩
  simp only [List.mem_singleton] at hz
  subst hz
  have := hl y hy a ha
  have := hx b hb
  omega

/-- What a round of the caller keeps: what lies below a, posts and their messages. -/
def notPost (t : TypeId) : Bool := !isPost t
def KM (a : Nat) (W W' : World) : Prop := Frm notPost a W W'
theorem KM.trans {a : Nat} {A B C : World} (h : KM a A B) (k : KM a B C) : KM a A C := Frm.trans h k
theorem km_b {a : Nat} {w : World} (ha : a ≤ w.heap.size) (W : World) (l : Nat) (o o' : Obj) (hl : w.heap.size ≤ l) (h : W.heap[l]? = some o) (h1 : o.isCells = false) (h2 : o.isWalk = false) : KM a W (W.putObj l o') :=
  ⟨belowK_b (w := w) ha W l o o' hl h h1 h2, fun k cs t fr hk _ => by
    refine (World.putObj_heap_other (fun e => ?_)).trans hk
    subst e
    rw [h] at hk
    cases hk
    cases h1⟩

set_option maxRecDepth 100000 in
set_option maxHeartbeats 4000000 in
theorem all1_in (n : Nat) (hn : 2 ≤ n) (l Bx p a base hi B0 : Nat) (nodes : Int) (ms : List Msg) (hroom : ms.length * 32 ≤ 140737488355328) (hsz : ∀ m ∈ ms, m.s.size ≤ 65536) (J Jx : List Piece → World → Prop) (hJ : AbidesFrom B0 J)
    (hY : ∀ pre x W1, J pre W1 → Fine hi x W1 → ((∃ k, msgsOf (pre ++ [x]) = ms.take k) ∧ Asc (pre ++ [x])) → pre.length < ms.length → YieldAt Fence.wide (n - 1) Try.prog l #[mailV x.2.src x.2.dst x.1] W1 fun e W' =>
      (e = .returned (.bool true) ∧ J (pre ++ [x]) W' ∧ KM a W1 W') ∨ (e = .returned (.bool false) ∧ Jx (pre ++ [x]) W'))
    (W : World) (hbx : Boxed W Bx 24 (.pointer (some ⟨p, 0, none⟩))) (hP : Post W base p nodes ms) (hhi : hi ≤ W.heap.size) (h0 : J [] W) :
    CallsIn Fence.wide n Try.prog 34 #[.func (.yield l) #[] #[], .pointer (some ⟨Bx, 0, none⟩)] W fun e W' => (∃ v, e = .returned v) ∧
      ((∃ ys, (msgsOf ys = ms ∧ Asc ys) ∧ J ys W') ∨ (∃ pre, ((∃ k, msgsOf pre = ms.take k) ∧ Asc pre) ∧ Jx pre W')) := by
  have hn1 : 1 ≤ n := by omega
  obtain ⟨hbp, rv, h1, hO⟩ := hP
  obtain ⟨c0, c1, _⟩ := h1.cells
  have hp := h1.lt
  have hbc := hbx.cell
  have CC := Lib.hid (clone_calls base rv ms W hO hroom)
  obtain ⟨R, rc, rfl, _⟩ := hO.form
  clear hbx h1 hO
  refine callsIn_of_wp Try.func34 rfl trivial ?_ rfl
  simp only [Try.ntmps34, List.size_toArray, List.length_cons, List.length_nil, Nat.reduceAdd, Nat.reduceSub, Array.replicate_succ, Array.replicate_zero, List.push_toArray, List.append_toArray, List.nil_append, List.cons_append]
  have HJ0 := Lib.hid h0
  have HY := Lib.hid hY
  clear h0 hY
  gi_wp2_with fail
  refine ⟨trivial, ?_⟩
  refine (callsIn_wide.2 CC.out).mono ?_
  rintro e W1 ⟨v, rfl, hO1, hB1⟩
  obtain ⟨A1, cap1, rfl, hnc⟩ := hO1.form
  have HJ1 := Lib.hid (hJ _ _ _ none HJ0.out (grown_of_below hB1) (fun r e => by cases e))
  have HO1 := Lib.hid hO1
  have hs1 := hB1.size
  clear CC hO1 hB1
  gi_wp2
  gi_loopw [13] (fun i wr => ∃ (ps : List Piece), i = .int .i64 ps.length ∧ ps.length ≤ ms.length ∧ msgsOf ps = ms.take ps.length ∧ (Asc ps ∧ ∀ y ∈ ps, ∀ b, y.1.ownBlock = some b → b < wr.heap.size) ∧ J ps wr ∧ Seg wr W.heap.size 68 3 (.slice A1 ms.length cap1) ms.length (flatM ms) ∧ hi ≤ wr.heap.size) (fun i _ => ms.length - (intOf i).toNat)
  case atStart => exact ⟨[], rfl, Nat.zero_le _, by simp [msgsOf], ⟨by simp [Asc], by simp⟩, HJ1.out, HO1.out, Nat.le_trans hhi hs1⟩
  case round =>
    obtain ⟨ps, rfl, hle, htk, ⟨hasc, hlow⟩, hJs, hOr, hhr⟩ := hrel
    have HASC := Lib.hid hasc
    have HLOW := Lib.hid hlow
    clear hasc hlow
    have HTK := Lib.hid htk
    have HJs := Lib.hid hJs
    have HO := Lib.hid hOr
    clear htk hJs hOr
    by_cases hlt : ps.length < ms.length
    · obtain ⟨m, hm⟩ : ∃ m, ms[ps.length]? = some m := ⟨_, List.getElem?_eq_getElem hlt⟩
      obtain ⟨g, o, cur, rfl, hbg, hg, hnc', hcm, hfit, _⟩ := HO.out.at (by omega)
      obtain ⟨e0, e1, e2⟩ := seg_msg HO.out hm
      have hglt : g < wr.heap.size := lt_of_at hg
      have hmem := List.mem_of_getElem? hm
      have htk2 : ms.take (ps.length + 1) = ms.take ps.length ++ [m] := by
        rw [List.take_succ_eq_append_getElem hlt]
        rw [(List.getElem?_eq_some_iff.1 hm).2]
      have CM := Lib.hid (mail_calls m (hsz m hmem))
      have HT2 := Lib.hid htk2
      have HJm := Lib.hid (hJ ps wr _ none HJs.out (grown_of_below ((Below.refl wr.heap.size wr).alloc (Nat.le_refl _) (.cells #[.int .i64 m.src, .int .i64 m.dst, .string m.s] 68))) (fun r e => by cases e))
      have HB0 := Lib.hid ((Below.refl wr.heap.size wr).alloc (Nat.le_refl _) (.cells #[.int .i64 m.src, .int .i64 m.dst, .string m.s] 68))
      have hltI : (ps.length : Int) < (ms.length : Int) := by omega
      clear hm htk2 hg hmem
      gi_wp2_with fail
      refine ⟨trivial, ?_⟩
      refine (callsIn_wide.2 (CM.out _)).mono ?_
      rintro e w' ⟨v', rfl, hG, hB'⟩
      have hB'' := HB0.out.trans (hB'.mono HB0.out.size)
      have hjw := hJ ps _ w' none HJm.out (grown_of_below hB') (fun r e => by cases e)
      have hlen1 : (ps ++ [(v', m)]).length = ps.length + 1 := by rw [List.length_append]; rfl
      have hms1 : msgsOf (ps ++ [(v', m)]) = ms.take (ps ++ [(v', m)]).length := by rw [msgsOf_snoc, hlen1, HT2.out, HTK.out]
      obtain ⟨gb, gc, hgv, hgb1, hgb2⟩ := hG.own
      have hsn : Asc (ps ++ [(v', m)]) := HASC.out.snoc HLOW.out (fun b hb => by
        simp only [hgv, Value.ownBlock, Option.some.injEq] at hb
        have := HB0.out.size
        omega)
      have hlow2 : ∀ y ∈ ps ++ [(v', m)], ∀ b, y.1.ownBlock = some b → b < w'.heap.size := fun y hy b hb => by
        rcases List.mem_append.1 hy with hy | hy
        · have := HLOW.out y hy b hb
          have := hB''.size
          omega
        · simp only [List.mem_singleton] at hy
          subst hy
          simp only [hgv, Value.ownBlock, Option.some.injEq] at hb
          omega
      have HSN := Lib.hid hsn
      have HLOW2 := Lib.hid hlow2
      clear hgv hlow2 hsn
      obtain ⟨fn, tmps, assign, body, hy, hRd⟩ := HY.out ps (v', m) w' hjw (hG.lower (Nat.le_trans hhr HB0.out.size)) ⟨⟨_, hms1⟩, HSN.out⟩ hlt
      have HO' := Lib.hid (HO.out.below hB'')
      have hsw := hB''.size
      have HMS := Lib.hid hms1
      have HL1 := Lib.hid hlen1
      clear hjw hG HJs HJm hB' hB'' CM hms1 hlen1
      gi_wp2
      refine hRd.mono ?_
      rintro e W3 (⟨rfl, hJ3, hk3⟩ | ⟨rfl, hJx3⟩)
      · have HO3 := Lib.hid (Seg.frm HO'.out hk3 (by decide))
        have hs3 := Frm.size hk3
        clear hy hRd hk3
        gi_wp2
        go_roundw
        case rel => exact ⟨ps ++ [(v', m)], by rw [HL1.out]; go_num, by rw [HL1.out]; omega, HMS.out, ⟨HSN.out, fun y hy b hb => by have := HLOW2.out y hy b hb; omega⟩, hJ3, HO3.out, by omega⟩
        case measure => simp [intOf]; omega
      · clear hy hRd
        gi_wp2
        refine bodyPost_ret (results_none rfl _ _ _) rfl ?_
        exact ⟨⟨_, rfl⟩, .inr ⟨ps ++ [(v', m)], ⟨⟨_, HMS.out⟩, HSN.out⟩, hJx3⟩⟩
    · have hall : msgsOf ps = ms := by rw [HTK.out]; exact List.take_of_length_le (by omega)
      have HALL := Lib.hid hall
      have hltI : ¬ (ps.length : Int) < (ms.length : Int) := by omega
      clear hall
      gi_wp2
      go_end0
      exact ⟨⟨_, rfl⟩, .inl ⟨ps, ⟨HALL.out, HASC.out⟩, HJs.out⟩⟩

theorem all_stops (n : Nat) (hn : 2 ≤ n) (a base p Bx : Nat) (nodes : Int) (ms : List Msg) (hroom : ms.length * 32 ≤ 140737488355328) (hsz : ∀ m ∈ ms, m.s.size ≤ 65536) (w : World) (hbx : Boxed w Bx 24 (.pointer (some ⟨p, 0, none⟩))) (hP : Post w base p nodes ms) :
    SeqTold Fence.wide n Try.prog 34 #[.pointer (some ⟨Bx, 0, none⟩)] (fun x : Piece => #[mailV x.2.src x.2.dst x.1]) (fun x W => Fine w.heap.size x W) (KM a)
      (fun ys => msgsOf ys = ms ∧ Asc ys) (fun pre => (∃ k, msgsOf pre = ms.take k) ∧ Asc pre) ms.length w := by
  intro l J Jx W hW hJ _ hY h0
  exact all1_in n hn l Bx p a base w.heap.size W.heap.size nodes ms hroom hsz J Jx hJ (fun pre x W1 h1 h2 h3 h4 => hY pre x W1 h1 h2 h3 h4) W ((hW.block Bx hbx.lt).trans hbx) (hP.below hW) hW.size h0

set_option maxRecDepth 100000 in
set_option maxHeartbeats 2000000 in
theorem all1_nil (n : Nat) (hn : 2 ≤ n) (l Bx : Nat) (J : List Piece → World → Prop) (W : World) (hbx : Boxed W Bx 24 (.pointer none)) (h0 : J [] W) :
    CallsIn Fence.wide n Try.prog 34 #[.func (.yield l) #[] #[], .pointer (some ⟨Bx, 0, none⟩)] W fun e W' => (∃ v, e = .returned v) ∧ J [] W' := by
  have hn1 : 1 ≤ n := by omega
  have hbc := hbx.cell
  have HJ0 := Lib.hid h0
  clear hbx h0
  refine callsIn_of_wp Try.func34 rfl trivial ?_ rfl
  simp only [Try.ntmps34, List.size_toArray, List.length_cons, List.length_nil, Nat.reduceAdd, Nat.reduceSub, Array.replicate_succ, Array.replicate_zero, List.push_toArray, List.append_toArray, List.nil_append, List.cons_append]
  gi_wp2
  refine bodyPost_ret (results_none rfl _ _ _) rfl ?_
  exact ⟨⟨_, rfl⟩, HJ0.out⟩

end Go.Proofs.Ytjcgkjjomiapoaa.Mail
