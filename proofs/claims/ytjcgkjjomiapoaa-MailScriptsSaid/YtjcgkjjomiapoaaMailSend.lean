/-
  Contracts of mail's Send and Twice.
-/
import Derived.Test.YtjcgkjjomiapoaaMailPost
import Derived.Deep.RegionLaw
import Derived.Deep.RegionWith
namespace Go.Proofs.Ytjcgkjjomiapoaa.Mail
open Go Go.RowKit Go.Proofs.Ytjcgkjjomiapoaa.Law

theorem info_message : (Try.prog.info? 68).map (fun i => (i.zero, i.size, i.bytes)) = some (some (.agg #[.int .i64 0, .int .i64 0, .string ⟨#[]⟩]), 3, 32) := by kernel_rfl

/-- A message that lies in a block is put behind a post's. -/
theorem post_append {W : World} {base p : Nat} {nodes : Int} {ms : List Msg} {A : Option Addr} {n cap : Nat} (hb : base ≤ p) (hn : ms.length = n) (h : PB W p nodes (.slice A n cap)) (hO : Seg W base 68 3 (.slice A n cap) n (flatM ms)) (hbase : base ≤ W.heap.size) (m : Msg) (ty : TypeId) (b : Nat)
    (hm : W.heap[b]? = some (.cells #[.int .i64 m.src, .int .i64 m.dst, .string m.s] 68 (0, 0))) (hroom : (ms.length + 1) * 32 ≤ 140737488355328) :
    ∃ A' cap' W', (Builtin.append_ #[63, 63] ty #[.slice A n cap, .slice (some ⟨b, 0, none⟩) 1 1]).run Try.prog W = .ok (.slice A' (n + 1) cap') W' ∧
      PB W' p nodes (.slice A n cap) ∧ (W.heap.size ≤ W'.heap.size) ∧ Post (W'.setCell ⟨p, 1, none⟩ (.slice A' (n + 1) cap')) base p nodes (ms ++ [m]) ∧ Frm isPost base W (W'.setCell ⟨p, 1, none⟩ (.slice A' (n + 1) cap')) := by
  subst hn
  obtain ⟨i0, hi, hz0, hz1, hz2⟩ := info_parts info_message
  obtain ⟨v', W', hrun, h2, h3, h5⟩ := Seg.append (P := Try.prog) ty Try.underlying63 hi hz0 hz1 hz2 rfl hO ⟨b, 0, none⟩ 1 1 (by decide) (flatM [m]) (flatM_length [m])
    (fun j u hu => by
      rw [Addr.add_lit]
      match j, hu with
      | 0, hu => simp [flatM] at hu; subst hu; simp [World.cell?, hm]
      | 1, hu => simp [flatM] at hu; subst hu; simp [World.cell?, hm]
      | 2, hu => simp [flatM] at hu; subst hu; simp [World.cell?, hm]
      | j + 3, hu => simp [flatM] at hu) (flatM_one [m]) (by simp only [maxLen]; omega) hroom hbase
  obtain ⟨A', cap', rfl, _⟩ := h2.form
  have hp := h.lt
  have hne := h.ne hO
  have hpb : PB W' p nodes (.slice A ms.length cap) := (h3.block p hp (fun e => hne e.symm)).trans h
  have hne' : (Value.slice A' (ms.length + 1) cap').ownBlock ≠ some p := hpb.ne h2
  refine ⟨A', cap', W', hrun, hpb, h3.size, ⟨hb, .slice A' (ms.length + 1) cap', ?_, ?_⟩, ?_⟩
  · have := heap_set hpb 1 (.slice A' (ms.length + 1) cap')
    exact this.trans (by simp)
  · rw [List.length_append, flatM_append]
    exact h2.keep fun g hg => Below.heap_setCell _ _ _ _ (fun e => hne' (by rw [hg]; exact congrArg some e))
  · exact ((Frm.refl isPost base W).grown_seg h3 hO (by decide) (Nat.le_refl _) hbase).set hpb (by decide) hb (Nat.le_trans hbase h3.size) _

def Sent (w : World) (base p : Nat) (nodes : Int) (ms : List Msg) (m : Msg) (e : Ending) (W : World) : Prop := e = .returned (.int .i64 0) ∧ Post W base p nodes (ms ++ [m]) ∧ Frm isPost base w W
def Refused (w : World) (k : Int) (e : Ending) (W : World) : Prop := e = .returned (.int .i64 k) ∧ Below w.heap.size w W

abbrev mailV (a b : Int) (v : Value) : Value := .agg #[.int .i64 a, .int .i64 b, v]

set_option maxRecDepth 100000 in
set_option maxHeartbeats 2000000 in
theorem send_nil (a b : Int) (v : Value) (w : World) : Calls Try.prog 9 #[.pointer none, mailV a b v] w (Refused w 9) := by
  go_enter Try.func9, Try.ntmps9
  go_wp2_with fail
  go_ret
  exact ⟨rfl, (Below.refl _ _).alloc (Nat.le_refl _) _⟩

set_option maxRecDepth 100000 in
set_option maxHeartbeats 2000000 in
theorem send_nodes (base p : Nat) (nodes : Int) (ms : List Msg) (w : World) (h : Post w base p nodes ms) (a b : Int) (v : Value) (hn : ¬ ((0 ≤ a ∧ a < nodes) ∧ (0 ≤ b ∧ b < nodes))) :
    Calls Try.prog 9 #[.pointer (some ⟨p, 0, none⟩), mailV a b v] w (Refused w 1) := by
  obtain ⟨_, rv, h1, _⟩ := h
  have HP := Lib.hid ((Below.refl w.heap.size w).alloc (Nat.le_refl _) (.cells #[.int .i64 a, .int .i64 b, v] 34))
  have h2 : PB (w.alloc (.cells #[.int .i64 a, .int .i64 b, v] 34)) p nodes rv := (HP.out.block p h1.lt).trans h1
  have H2 := Lib.hid h2
  clear h1 h2
  by_cases ha : 0 ≤ a ∧ a < nodes
  · have hb : ¬ (0 ≤ b ∧ b < nodes) := fun h => hn ⟨ha, h⟩
    have C1 := Lib.hid (hasNode_yes p nodes a rv _ H2.out ha.1 ha.2)
    have C2 := Lib.hid (hasNode_no p nodes b rv _ H2.out hb)
    clear ha hb hn
    go_enter Try.func9, Try.ntmps9
    go_wp2_with fail
    refine C1.out.mono ?_
    rintro e W ⟨rfl, rfl⟩
    go_wp2_with fail
    refine C2.out.mono ?_
    rintro e W ⟨rfl, rfl⟩
    go_wp2_with fail
    go_ret
    exact ⟨rfl, HP.out⟩
  · have C1 := Lib.hid (hasNode_no p nodes a rv _ H2.out ha)
    clear ha hn
    go_enter Try.func9, Try.ntmps9
    go_wp2_with fail
    refine C1.out.mono ?_
    rintro e W ⟨rfl, rfl⟩
    go_wp2_with fail
    go_ret
    exact ⟨rfl, HP.out⟩

set_option maxRecDepth 100000 in
set_option maxHeartbeats 2000000 in
theorem send_long (base p : Nat) (nodes : Int) (ms : List Msg) (w : World) (h : Post w base p nodes ms) (a b : Int) (ha : 0 ≤ a ∧ a < nodes) (hb : 0 ≤ b ∧ b < nodes) (A : Option Addr) (len cap : Nat) (hl : 65536 < len) (hl2 : len ≤ 9223372036854775807) :
    Calls Try.prog 9 #[.pointer (some ⟨p, 0, none⟩), mailV a b (.slice A len cap)] w (Refused w 2) := by
  obtain ⟨_, rv, h1, _⟩ := h
  have HP := Lib.hid ((Below.refl w.heap.size w).alloc (Nat.le_refl _) (.cells #[.int .i64 a, .int .i64 b, .slice A len cap] 34))
  have h2 : PB (w.alloc (.cells #[.int .i64 a, .int .i64 b, .slice A len cap] 34)) p nodes rv := (HP.out.block p h1.lt).trans h1
  have C1 := Lib.hid (hasNode_yes p nodes a rv _ h2 ha.1 ha.2)
  have C2 := Lib.hid (hasNode_yes p nodes b rv _ h2 hb.1 hb.2)
  clear h1 h2 ha hb
  go_enter Try.func9, Try.ntmps9
  go_wp2_with fail
  refine C1.out.mono ?_
  rintro e W ⟨rfl, rfl⟩
  go_wp2_with fail
  refine C2.out.mono ?_
  rintro e W ⟨rfl, rfl⟩
  go_wp2_with fail
  go_ret
  exact ⟨rfl, HP.out⟩

set_option maxRecDepth 100000 in
set_option maxHeartbeats 4000000 in
theorem send_calls (base p : Nat) (nodes : Int) (ms : List Msg) (w : World) (h : Post w base p nodes ms) (hbase : base ≤ w.heap.size) (a b : Int) (ha : 0 ≤ a ∧ a < nodes) (hb : 0 ≤ b ∧ b < nodes) (v : Value) (bs : List Nat) (hI : Bytes w.heap.size w v bs) (hl : bs.length ≤ 65536)
    (hroom : (ms.length + 1) * 32 ≤ 140737488355328) :
    Calls Try.prog 9 #[.pointer (some ⟨p, 0, none⟩), mailV a b v] w (Sent w base p nodes ms ⟨a, b, str bs⟩) := by
  obtain ⟨A, cap, rfl⟩ := hI.form
  obtain ⟨len, hlen⟩ : ∃ len, bs.length = len := ⟨_, rfl⟩
  rw [hlen] at hI hl ⊢
  obtain ⟨S, hS⟩ : ∃ S, str bs = S := ⟨_, rfl⟩
  rw [hS]
  obtain ⟨hbp, rv, h1, hO⟩ := h
  obtain ⟨R, rc, rfl, _⟩ := hO.form
  obtain ⟨n, hn⟩ : ∃ n, ms.length = n := ⟨_, rfl⟩
  rw [hn] at h1 hO
  have hP := (Below.refl w.heap.size w).alloc (Nat.le_refl _) (.cells #[.int .i64 a, .int .i64 b, .slice A len cap] 34)
  have h2 : PB (w.alloc (.cells #[.int .i64 a, .int .i64 b, .slice A len cap] 34)) p nodes (.slice R n rc) := (hP.block p h1.lt).trans h1
  have C1 := Lib.hid (hasNode_yes p nodes a _ _ h2 ha.1 ha.2)
  have C2 := Lib.hid (hasNode_yes p nodes b _ _ h2 hb.1 hb.2)
  have hcv := run_string_bytes (P := Try.prog) (w.alloc (.cells #[.int .i64 a, .int .i64 b, .slice A len cap] 34)).drew Try.underlying32 Try.underlying5 Try.underlying9 (hI.below hP).drew
  rw [hS] at hcv
  obtain ⟨c0, c1, c2⟩ := h1.cells
  have hp := h1.lt
  have hb1 : base ≤ (w.alloc (.cells #[.int .i64 a, .int .i64 b, .slice A len cap] 34)).heap.size := by simp; omega
  obtain ⟨W0, hW0⟩ : ∃ W0, (w.alloc (.cells #[.int .i64 a, .int .i64 b, .slice A len cap] 34)).drew.alloc (.cells #[.int .i64 a, .int .i64 b, .string S] 68) = W0 := ⟨_, rfl⟩
  have hF0 : Frm isPost base w W0 := by rw [← hW0]; exact (((Frm.refl isPost base w).alloc hbase _).drew).alloc hb1 _
  have hm0 : W0.heap[w.heap.size + 1]? = some (.cells #[.int .i64 a, .int .i64 b, .string S] 68 (0, 0)) := by
    rw [← hW0]
    have := heap_alloc_new (w.alloc (.cells #[.int .i64 a, .int .i64 b, .slice A len cap] 34)).drew (.cells #[.int .i64 a, .int .i64 b, .string S] 68)
    have e : (w.alloc (.cells #[.int .i64 a, .int .i64 b, .slice A len cap] 34)).drew.heap.size = w.heap.size + 1 := by simp
    rw [e] at this
    exact this
  have hB0 : Below w.heap.size w W0 := by rw [← hW0]; exact (hP.drew).alloc (by simp) _
  have hs0 : base ≤ W0.heap.size := Nat.le_trans hbase hF0.size
  obtain ⟨A', cap', W1, hrun, g1, g2, g3, g4⟩ := post_append (m := ⟨a, b, S⟩) hbp hn ((hB0.block p h1.lt).trans h1) (hO.below hB0) hs0 63 (w.heap.size + 1) hm0 hroom
  rw [← hW0] at hrun
  obtain ⟨k0, k1, k2⟩ := g1.cells
  have k21 := k2 1
  have HRUN := Lib.hid hrun
  have HDONE := Lib.hid (And.intro g3 (hF0.trans g4))
  clear hrun h1 hO h2 hP hI ha hb hS hlen hn hW0 hF0 hm0 hB0 g1 g3 g4 k2 hroom c2
  go_enter Try.func9, Try.ntmps9
  go_wp2_with fail
  refine C1.out.mono ?_
  rintro e W ⟨rfl, rfl⟩
  go_wp2_with fail
  refine C2.out.mono ?_
  rintro e W ⟨rfl, rfl⟩
  go_wp2_with fail
  go_region_law (refine step_append_ran rfl _ _ _ rfl rfl rfl HRUN.out ?_)
  all_goals
    go_wp2_with fail
    go_ret
    exact ⟨rfl, HDONE.out⟩

end Go.Proofs.Ytjcgkjjomiapoaa.Mail
