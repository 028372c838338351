/-
  Contracts of the iterator All: it hands on the payloads that are told from the front, each in new memory that belongs to nobody else.
-/
import Derived.OwnWalkIn
import Derived.TacticsInMore
import Derived.LoopNIn
import Derived.LoopIn
import Derived.Shelf.Abstract
import Derived.Shelf.RegionOpen
import Derived.Test.YtmflcpkkeejjpaaDoorFrameRead
import Derived.Test.YtmflcpkkeejjpaaDoorTold
namespace Go.Proofs.YtmflcpkkeejjpaaDoor.Frame
open Go.RowKit Go.Shelf Go.Proofs.YtmflcpkkeejjpaaDoor.Law Go.Proofs.YtmflcpkkeejjpaaDoor.Crc

attribute [local go_sem] Oper.semAt_some

/-- A payload that is handed on: the slice, and its bytes. -/
abbrev Piece := Value × List Nat
def bytesOf (ps : List Piece) : List (List Nat) := ps.map (·.2)
theorem bytesOf_snoc (ps : List Piece) (x : Piece) : bytesOf (ps ++ [x]) = bytesOf ps ++ [x.2] := by simp [bytesOf]
theorem bytesOf_length (ps : List Piece) : (bytesOf ps).length = ps.length := by simp [bytesOf]

/-- A payload's bytes lie in memory that belongs to nobody else, and are not too many. -/
def Fine (base : Nat) (x : Piece) (W : World) : Prop := OwnB W base 5 x.1 x.2 ∧ x.2.length ≤ 65536
theorem fine_own (base : Nat) : Own (fun (x : Piece) W => Fine base x W) := fun x A B row hs hg hr => ⟨ownB_own (β := Piece) base 5 (·.1) (·.2) x A B row hs.1 hg hr, hs.2⟩

/-- What a round keeps: what lies below a, and from lo up to hi. -/
def Keeps (a lo hi : Nat) (W W' : World) : Prop := Below a W W' ∧ ∀ k, lo ≤ k → k < hi → W'.heap[k]? = W.heap[k]?
theorem Keeps.trans {a lo hi : Nat} {A B C : World} (h : Keeps a lo hi A B) (k : Keeps a lo hi B C) : Keeps a lo hi A C := ⟨h.1.trans k.1, fun j h1 h2 => (k.2 j h1 h2).trans (h.2 j h1 h2)⟩
theorem Keeps.of_below {a lo hi B : Nat} {W W' : World} (h : Below B W W') (ha : a ≤ B) (hb : hi ≤ B) : Keeps a lo hi W W' := ⟨h.mono ha, fun k _ h2 => h.block k (by omega)⟩
theorem keeps_b {a lo hi : Nat} {w : World} (ha : a ≤ w.heap.size) (hb : hi ≤ w.heap.size) (W : World) (l : Nat) (o o' : Obj) (hl : w.heap.size ≤ l) (h : W.heap[l]? = some o) (h1 : o.isCells = false) (h2 : o.isWalk = false) : Keeps a lo hi W (W.putObj l o') :=
  ⟨belowK_b (w := w) ha W l o o' hl h h1 h2, fun k _ hk => World.putObj_heap_other (by omega)⟩

/-- What the iterator reads between two rounds. -/
def Reads (a lo hi Bx : Nat) (v : Value) (bs : List Nat) (W : World) : Prop :=
  Tab W ∧ Boxed W Bx 22 v ∧ OwnB W lo 5 v bs ∧ hi ≤ W.heap.size ∧ 0 < a ∧ lo ≤ Bx ∧ Bx < hi ∧ (∀ k, v.ownBlock = some k → k < hi)

theorem Reads.below {a lo hi Bx : Nat} {v : Value} {bs : List Nat} {W W' : World} (h : Reads a lo hi Bx v bs W) (hb : Below W.heap.size W W') : Reads a lo hi Bx v bs W' := by
  obtain ⟨h1, h2, h3, h4, h5⟩ := h
  exact ⟨h1.below hb, (hb.block Bx h2.lt).trans h2, h3.below hb, Nat.le_trans h4 hb.size, h5⟩
theorem Reads.kept {a lo hi Bx : Nat} {v : Value} {bs : List Nat} {W W' : World} (h : Reads a lo hi Bx v bs W) (hk : Keeps a lo hi W W') : Reads a lo hi Bx v bs W' := by
  obtain ⟨h1, h2, h3, h4, h5, h6, h7, h8⟩ := h
  refine ⟨fun k hk' => (World.cell?_of_block (hk.1.block _ h5)).trans (h1 k hk'), (hk.2 Bx h6 h7).trans h2, ⟨⟨h3.1.1, ?_⟩, h3.2⟩, Nat.le_trans h4 hk.1.size, h5, h6, h7, h8⟩
  rcases h3.1.2 with h0 | ⟨g, cap, cur, rfl, q1, q2, q3⟩
  · exact .inl h0
  · exact .inr ⟨g, cap, cur, rfl, q1, (hk.2 g q1 (h8 g rfl)).trans q2, q3⟩

set_option maxRecDepth 100000 in
set_option maxHeartbeats 4000000 in
theorem all1_in (n : Nat) (hn : 2 ≤ n) (l Bx a lo hi B0 : Nat) (v : Value) (bs : List Nat) (hreach : bs.length ≤ 140737488351232) (J Jx : List Piece → World → Prop) (hJ : AbidesFrom B0 J)
    (hY : ∀ pre x W1, J pre W1 → Fine hi x W1 → (∃ k, Told bs (bytesOf (pre ++ [x])) k) → pre.length < bs.length / 12 → YieldAt Fence.wide (n - 1) Tryd.prog l #[x.1] W1 fun e W' =>
      (e = .returned (.bool true) ∧ J (pre ++ [x]) W' ∧ Keeps a lo hi W1 W') ∨ (e = .returned (.bool false) ∧ Jx (pre ++ [x]) W'))
    (W : World) (hR : Reads a lo hi Bx v bs W) (h0 : J [] W) :
    CallsIn Fence.wide n Tryd.prog 33 #[.func (.yield l) #[] #[], .pointer (some ⟨Bx, 0, none⟩)] W fun e W' => (∃ v, e = .returned v) ∧
      ((∃ ys, (∃ k, Told bs (bytesOf ys) k ∧ Done bs k) ∧ J ys W') ∨ (∃ pre, (∃ k, Told bs (bytesOf pre) k) ∧ Jx pre W')) := by
  have hn1 : 1 ≤ n := by omega
  refine callsIn_of_wp Tryd.func33 rfl trivial ?_ rfl
  simp only [Tryd.ntmps33, List.size_toArray, List.length_cons, List.length_nil, Nat.reduceAdd, Nat.reduceSub, Array.replicate_succ, Array.replicate_zero, List.push_toArray, List.append_toArray, List.nil_append, List.cons_append]
  gi_wp2
  gi_loopw [3] (fun i wr => ∃ (ps : List Piece) (k : Nat), i = .int .i64 k ∧ Told bs (bytesOf ps) k ∧ J ps wr ∧ Reads a lo hi Bx v bs wr) (fun i _ => bs.length - (intOf i).toNat)
  case atStart => exact ⟨[], 0, rfl, .none, h0, hR⟩
  case round =>
    obtain ⟨ps, k, rfl, hTo, hJs, hRr⟩ := hrel
    obtain ⟨hle, hlen⟩ := hTo.le
    rw [bytesOf_length] at hlen
    have hTr := hRr.1
    have hbox := hRr.2.1.cell
    have hbytes := hRr.2.2.1.bytes
    have cN := next_at v bs hreach k hle wr hTr hbytes
    by_cases hd : Done bs k
    · have hr := readN_err (r := bs.drop k) (at0 := k) hd
      obtain ⟨E, hE⟩ : ∃ E, (nextN bs k).2.2 = E := ⟨_, rfl⟩
      have hnx : nextN bs k = ([], 0, E) := by
        rw [← hE]
        exact Prod.ext hr.1 (Prod.ext hr.2 rfl)
      rw [hnx] at cN
      have hE0 : E ≠ 0 := by rw [← hE]; exact hd
      have hEI : ((E : Int) == 0) = false := by rw [beq_eq_false_iff_ne]; omega
      have hEJ : ((E : Int) != 0) = true := by rw [bne_iff_ne]; omega
      have CN := Lib.hid cN
      have HTo := Lib.hid hTo
      have HD := Lib.hid hd
      have HR := Lib.hid hRr
      have HJs := Lib.hid hJs
      clear cN hTo hd hr hE hnx hE0 hTr hbytes hRr hY hJs hlen hR
      gi_wp2_with (refine ⟨trivial, ?_⟩; gi_at_call 14; refine (callsIn_wide.2 CN.out).mono ?_; rintro e w' ⟨v', rfl, -, hB'⟩)
      refine ⟨fun _ h => (by cases h), ?_⟩
      gi_wp2
      refine bodyPost_ret (results_none rfl _ _ _) rfl ?_
      exact ⟨⟨_, rfl⟩, .inl ⟨ps, ⟨k, HTo.out, HD.out⟩, hJ _ _ _ none HJs.out (grown_of_below hB') (fun r e => by cases e)⟩⟩
    · obtain ⟨p, to, hnx⟩ : ∃ p to, nextN bs k = (p, to, 0) := by
        have h0 : (nextN bs k).2.2 = 0 := by
          rcases Nat.eq_zero_or_pos (nextN bs k).2.2 with h | h
          · exact h
          · exact absurd (by show (nextN bs k).2.2 ≠ 0; omega) hd
        exact ⟨_, _, Prod.ext rfl (Prod.ext rfl h0)⟩
      rw [hnx] at cN
      have hTo2 : Told bs (bytesOf ps ++ [p]) to := .more p to hTo hnx
      obtain ⟨hk12, hpl⟩ : k + 12 ≤ to ∧ p.length ≤ 65536 := by
        obtain ⟨h1, h2, h3, -, -⟩ := readN_ok (r := bs.drop k) (at0 := k) (by show (nextN bs k).2.2 = 0; rw [hnx])
        have h4 : nextN bs k = _ := h1
        rw [hnx] at h4
        simp only [Prod.mk.injEq] at h4
        obtain ⟨h5, h6, -⟩ := h4
        have h7 : p.length ≤ num4 (bs.drop k) := by rw [h5]; exact List.length_take_le _ _
        omega
      obtain ⟨hle2, hlen2⟩ := hTo2.le
      simp only [List.length_append, bytesOf_length, List.length_cons, List.length_nil] at hlen2
      have hN : ps.length < bs.length / 12 := by omega
      have CN := Lib.hid cN
      have HTo2 := Lib.hid hTo2
      have HTo := Lib.hid hTo
      have HR := Lib.hid hRr
      have HJs := Lib.hid hJs
      have HY := Lib.hid hY
      have hleI : (to : Int) ≤ 140737488351232 := by omega
      clear cN hTo hTo2 hd hnx hTr hbytes hRr hY hlen hJs hR
      gi_wp2_with fail
      refine ⟨trivial, ?_⟩
      refine (callsIn_wide.2 CN.out).mono ?_
      rintro e w' ⟨v', rfl, O', hB'⟩
      have hjw := hJ ps wr w' none HJs.out (grown_of_below hB') (fun r e => by cases e)
      obtain ⟨fn, tmps, assign, body, hy, hRd⟩ := HY.out ps (v', p) w' hjw ⟨O'.lower HR.out.2.2.2.1, hpl⟩ ⟨to, by rw [bytesOf_snoc]; exact HTo2.out⟩ hN
      clear hjw O' HJs
      gi_wp2
      refine hRd.mono ?_
      rintro e W3 (⟨rfl, hJ3, hk3⟩ | ⟨rfl, hJx3⟩)
      · clear hy hRd
        gi_wp2
        go_roundw
        case rel => exact ⟨ps ++ [(v', p)], to, rfl, by rw [bytesOf_snoc]; exact HTo2.out, hJ3, (HR.out.below hB').kept hk3⟩
        case measure => simp [intOf]; omega
      · clear hy hRd
        gi_wp2
        refine bodyPost_ret (results_none rfl _ _ _) rfl ?_
        exact ⟨⟨_, rfl⟩, .inr ⟨ps ++ [(v', p)], ⟨to, by rw [bytesOf_snoc]; exact HTo2.out⟩, hJx3⟩⟩

/-- What All hands back: a function value that has captured a box of its own, in which a copy of the bytes lies. -/
def AllSays (w : World) (bs : List Nat) (e : Ending) (W : World) : Prop :=
  ∃ v Bx, e = .returned (.func (.func 33) #[] #[.pointer (some ⟨Bx, 0, none⟩)]) ∧ Boxed W Bx 22 v ∧ OwnB W w.heap.size 5 v bs ∧ w.heap.size ≤ Bx ∧ Below w.heap.size w W

set_option maxRecDepth 100000 in
set_option maxHeartbeats 4000000 in
theorem all_in (n : Nat) (hn : 1 ≤ n) (sv : Value) (bs : List Nat) (hreach : bs.length ≤ 140737488351232) (w : World) (hI : Bytes w.heap.size w sv bs) :
    CallsIn Fence.wide n Tryd.prog 19 #[sv] w (AllSays w bs) := by
  have c1 := clone_calls sv bs hreach w hI
  have C1 := Lib.hid c1
  clear c1 hI
  refine callsIn_of_wp Tryd.func19 rfl trivial ?_ rfl
  simp only [Tryd.ntmps19, List.size_toArray, List.length_cons, List.length_nil, Nat.reduceAdd, Nat.reduceSub, Array.replicate_succ, Array.replicate_zero, List.push_toArray, List.append_toArray, List.nil_append, List.cons_append]
  gi_wp2_with fail
  refine ⟨trivial, ?_⟩
  refine (callsIn_wide.2 C1.out).mono ?_
  rintro e w1 ⟨v1, rfl, O1, hB1⟩
  obtain ⟨A1, cap1, rfl⟩ := O1.bytes.form
  obtain ⟨len, hlen⟩ : ∃ len, bs.length = len := ⟨_, rfl⟩
  rw [hlen] at O1 ⊢
  have HO1 := Lib.hid O1
  clear hlen O1
  gi_wp2
  go_ret
  exact ⟨_, w1.heap.size, rfl, Boxed.new w1 22 _, HO1.out.alloc _, hB1.size, hB1.alloc hB1.size _⟩

theorem all_stops (n : Nat) (hn : 2 ≤ n) (a lo Bx : Nat) (v : Value) (bs : List Nat) (hreach : bs.length ≤ 140737488351232) (w : World) (hR : Reads a lo w.heap.size Bx v bs w) :
    SeqTold Fence.wide n Tryd.prog 33 #[.pointer (some ⟨Bx, 0, none⟩)] (fun x : Piece => #[x.1]) (fun x W => Fine w.heap.size x W) (Keeps a lo w.heap.size)
      (fun ys => ∃ k, Told bs (bytesOf ys) k ∧ Done bs k) (fun pre => ∃ k, Told bs (bytesOf pre) k) (bs.length / 12) w := by
  intro l J Jx W hW hJ _ hY h0
  exact all1_in n hn l Bx a lo w.heap.size W.heap.size v bs hreach J Jx hJ (fun pre x W1 h1 h2 h3 h4 => hY pre x W1 h1 h2 h3 h4) W (hR.below hW) h0

end Go.Proofs.YtmflcpkkeejjpaaDoor.Frame
