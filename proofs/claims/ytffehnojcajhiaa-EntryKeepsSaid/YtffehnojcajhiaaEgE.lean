/-
  Contracts of goodRecord, goodGraph and Good. Contract of Good.
-/
import Derived.Test.YtffehnojcajhiaaEgB
import Derived.LoopTactic
import Derived.Laws.StructEq
import Derived.BigQuiet
import Derived.Deep.QuietTactic
namespace Go.Proofs.Ytffehnojcajhiaa.Wire.Entry
open Go Go.RowKit Go.Proofs.Ytffehnojcajhiaa.Law

/-- A Bool, and nothing that lay has turned. -/
def RetB (w : World) (g : Bool) (e : Ending) (W : World) : Prop := e = .returned (.bool g) ∧ Below w.heap.size w W

set_option maxRecDepth 100000 in
set_option maxHeartbeats 2000000 in
theorem goodRecord_calls (r : Rec) (g : Bool) (hg : g = true ↔ r.good) (w : World) : Calls Try.prog 21 #[recV r] w (RetB w g) := by
  have HB : Hid (∀ o, Below w.heap.size w (w.alloc o)) := Lib.hid fun o => (Below.refl _ _).alloc (Nat.le_refl _) o
  obtain ⟨p, q, a, key, val⟩ := r
  have HG := Lib.hid hg
  clear hg
  have no : ∀ (x : Prop), ¬ x → ((⟨p, q, a, key, val⟩ : Rec).good → x) → g = false := fun x hx h => by
    cases g with
    | false => rfl
    | true => exact absurd (h (HG.out.1 rfl)) hx
  have NO := Lib.hid no
  clear no
  by_cases h1 : 0 ≤ p
  · by_cases h2 : p ≤ 63
    · by_cases h3 : 0 ≤ q
      · by_cases h4 : 0 ≤ a
        · by_cases h5 : a < 8
          · by_cases h6 : (key.size : Int) ≤ 32
            · obtain rfl : g = true := HG.out.2 ⟨h1, h2, h3, h4, h5, by show key.size ≤ 32; omega⟩
              go_enter Try.func21, Try.ntmps21
              go_wp2_with fail
              go_ret
              exact ⟨rfl, HB.out _⟩
            · obtain rfl := NO.out _ h6 (fun h => by have := h.2.2.2.2.2; simp only at this; omega)
              go_enter Try.func21, Try.ntmps21
              go_wp2_with fail
              go_ret
              exact ⟨rfl, HB.out _⟩
          · obtain rfl := NO.out _ h5 (fun h => h.2.2.2.2.1)
            go_enter Try.func21, Try.ntmps21
            go_wp2_with fail
            go_ret
            exact ⟨rfl, HB.out _⟩
        · obtain rfl := NO.out _ h4 (fun h => h.2.2.2.1)
          go_enter Try.func21, Try.ntmps21
          go_wp2_with fail
          go_ret
          exact ⟨rfl, HB.out _⟩
      · obtain rfl := NO.out _ h3 (fun h => h.2.2.1)
        go_enter Try.func21, Try.ntmps21
        go_wp2_with fail
        go_ret
        exact ⟨rfl, HB.out _⟩
    · obtain rfl := NO.out _ h2 (fun h => h.2.1)
      go_enter Try.func21, Try.ntmps21
      go_wp2_with fail
      go_ret
      exact ⟨rfl, HB.out _⟩
  · obtain rfl := NO.out _ h1 (fun h => h.1)
    go_enter Try.func21, Try.ntmps21
    go_wp2_with fail
    go_ret
    exact ⟨rfl, HB.out _⟩

/-- A number, at least 0 just if P. -/
def RetI (w : World) (P : Prop) (e : Ending) (W : World) : Prop := ∃ i : Int, e = .returned (.int .i64 i) ∧ (0 ≤ i ↔ P) ∧ Below w.heap.size w W

theorem tooMany_yes (x : Opr) (A : Option Addr) (n c : Nat) (h : 2 < n) (w : World) : Calls Try.prog 39 #[opV x (.slice A n c)] w (RetB w true) := by
  have HB : Hid (∀ o, Below w.heap.size w (w.alloc o)) := Lib.hid fun o => (Below.refl _ _).alloc (Nat.le_refl _) o
  have hI : 2 < (n : Int) := by omega
  go_enter Try.func39, Try.ntmps39
  go_wp2_with fail
  go_ret
  exact ⟨rfl, HB.out _⟩
theorem tooMany_no (x : Opr) (A : Option Addr) (n c : Nat) (h : ¬ 2 < n) (w : World) : Calls Try.prog 39 #[opV x (.slice A n c)] w (RetB w false) := by
  have HB : Hid (∀ o, Below w.heap.size w (w.alloc o)) := Lib.hid fun o => (Below.refl _ _).alloc (Nat.le_refl _) o
  have hI : ¬ 2 < (n : Int) := by omega
  go_enter Try.func39, Try.ntmps39
  go_wp2_with fail
  go_ret
  exact ⟨rfl, HB.out _⟩

set_option maxRecDepth 100000 in
set_option maxHeartbeats 2000000 in
theorem indexOp_calls (l : List Opr) (hl : l.length * 72 ≤ 140737488351232) (v : Value) (w : World) (h : OldO w.heap.size w v l) :
    Calls Try.prog 55 #[v, .func (.func 39) #[] #[]] w (RetI w (∃ x ∈ l, 2 < x.ins.length)) := by
  obtain ⟨A, cap, rfl, hcap⟩ := h.form
  obtain ⟨len, hlen⟩ : ∃ len, l.length = len := ⟨_, rfl⟩
  rw [hlen] at h hcap hl ⊢
  have HL := Lib.hid hlen
  have HI := Lib.hid h
  clear h hlen
  go_enter Try.func55, Try.ntmps55
  go_wp2_with fail
  go_loopw [8] (fun i wr => ∃ k : Nat, i = .int .i64 k ∧ k ≤ len ∧ (∀ j x, l[j]? = some x → j < k → ¬ 2 < x.ins.length) ∧ Below w.heap.size w wr) (fun i _ => len - (intOf i).toNat)
  case atStart => exact ⟨0, rfl, Nat.zero_le _, fun _ _ _ h => absurd h (Nat.not_lt_zero _), Below.refl _ _⟩
  case round =>
    obtain ⟨k, rfl, hk, hno, hB⟩ := hrel
    have HNO := Lib.hid hno
    have HB := Lib.hid hB
    have hs := hB.size
    clear hno hB
    by_cases hlt : k < len
    · obtain ⟨x, hx⟩ : ∃ x, l[k]? = some x := ⟨_, List.getElem?_eq_getElem (by rw [HL.out]; exact hlt)⟩
      obtain ⟨b, off, rfl, hb, hcells⟩ := (OpsAt.low HB.out HI.out).at (by omega)
      obtain ⟨u, ⟨c0, c1, c2, c3, c4, c5, c6⟩, hi⟩ := hcells k x hx
      obtain ⟨A', cap', rfl, _⟩ := hi.form
      obtain ⟨n, hn⟩ : ∃ n, x.ins.length = n := ⟨_, rfl⟩
      rw [hn] at c1
      have HX := Lib.hid hx
      by_cases hm : 2 < n
      · have CT := Lib.hid (tooMany_yes x A' n cap' hm)
        have HP : Hid (∃ x ∈ l, 2 < x.ins.length) := Lib.hid ⟨x, List.mem_of_getElem? hx, by rw [hn]; exact hm⟩
        clear hcells hi hx hn
        go_wp2_with fail
        refine (CT.out _).mono ?_
        rintro e w2 ⟨rfl, hB2⟩
        have HB2 := Lib.hid (HB.out.trans (hB2.mono hs))
        clear hB2 CT
        go_wp2_with fail
        go_ret
        exact ⟨_, rfl, ⟨fun _ => HP.out, fun _ => by omega⟩, HB2.out⟩
      · have CT := Lib.hid (tooMany_no x A' n cap' hm)
        have HN := Lib.hid hn
        clear hcells hi hx hn
        go_wp2_with fail
        refine (CT.out _).mono ?_
        rintro e w2 ⟨rfl, hB2⟩
        have HB2 := Lib.hid (HB.out.trans (hB2.mono hs))
        clear hB2 CT
        go_wp2_with fail
        go_roundw
        case rel =>
          refine ⟨k + 1, by go_num, by omega, fun j y hy hj => ?_, HB2.out⟩
          by_cases hjk : j = k
          · subst hjk
            obtain rfl := Option.some.inj (hy.symm.trans HX.out)
            rw [HN.out]; exact hm
          · exact HNO.out j y hy (by omega)
        case measure => simp [intOf]; omega
    · obtain rfl : k = len := by omega
      go_wp2_with fail
      go_ret
      refine ⟨_, rfl, ⟨fun h => absurd h (by decide), fun ⟨x, hx, hx2⟩ => ?_⟩, HB.out⟩
      obtain ⟨j, hj⟩ := List.getElem?_of_mem hx
      exact absurd hx2 (HNO.out j x hj (by have := (List.getElem?_eq_some_iff.1 hj).1; have := HL.out; omega))

set_option maxRecDepth 100000 in
theorem containsOp_calls (l : List Opr) (hl : l.length * 72 ≤ 140737488351232) (v : Value) (g : Bool) (hg : g = true ↔ ∃ x ∈ l, 2 < x.ins.length) (w : World) (h : OldO w.heap.size w v l) :
    Calls Try.prog 40 #[v, .func (.func 39) #[] #[]] w (RetB w g) := by
  have CI := Lib.hid (indexOp_calls l hl v w h)
  have HG := Lib.hid hg
  clear h hg
  go_enter Try.func40, Try.ntmps40
  go_wp2_with fail
  refine CI.out.mono ?_
  rintro e W ⟨i, rfl, hi, hB⟩
  have HB := Lib.hid hB
  have HI := Lib.hid hi
  clear hB hi CI
  by_cases h0 : 0 ≤ i
  · obtain rfl : g = true := HG.out.2 (HI.out.1 h0)
    go_wp2_with fail
    go_ret
    exact ⟨rfl, HB.out⟩
  · obtain rfl : g = false := by
      cases g with
      | false => rfl
      | true => exact absurd (HI.out.2 (HG.out.1 rfl)) h0
    have hdI : decide (0 ≤ i) = false := decide_eq_false h0
    go_wp2_with fail
    go_ret
    exact ⟨rfl, HB.out⟩

theorem exB (p : Prop) : ∃ g : Bool, g = true ↔ p := ⟨bP p, bP_iff⟩
theorem b_false {g : Bool} {p : Prop} (hg : g = true ↔ p) (h : ¬ p) : g = false := by
  cases g with
  | false => rfl
  | true => exact absurd (hg.1 rfl) h

set_option maxRecDepth 100000 in
set_option maxHeartbeats 1000000 in
theorem goodGraph_calls (l : List Opr) (hl : l.length * 72 ≤ 140737488351232) (v : Value) (g : Bool) (hg : g = true ↔ goodOps l) (w : World) (h : OldO w.heap.size w v l) :
    Calls Try.prog 22 #[.agg #[v]] w (RetB w g) := by
  obtain ⟨A, cap, rfl, _⟩ := h.form
  obtain ⟨len, hlen⟩ : ∃ len, l.length = len := ⟨_, rfl⟩
  obtain ⟨q, hq⟩ := exB (∃ x ∈ l, 2 < x.ins.length)
  have CC := Lib.hid (containsOp_calls l hl _ q hq (w.alloc (.cells #[.slice A l.length cap] 27)) (OpsAt.on ((Below.refl _ _).alloc (Nat.le_refl _) _) h))
  rw [hlen] at CC ⊢
  have HB : Hid (∀ o, Below w.heap.size w (w.alloc o)) := Lib.hid fun o => (Below.refl _ _).alloc (Nat.le_refl _) o
  have HQ := Lib.hid hq
  have HG := Lib.hid hg
  have HL := Lib.hid hlen
  clear hq hg hlen h hl
  by_cases hm : (len : Int) ≤ 16
  · have hmN : ¬ 16 < (len : Int) := by omega
    have hgq : g = !q := by
      cases q with
      | true =>
        refine b_false HG.out fun h => ?_
        obtain ⟨x, hx, hx2⟩ := HQ.out.1 rfl
        have := h.2 x hx
        omega
      | false =>
        refine HG.out.2 ⟨by rw [HL.out]; omega, fun x hx => ?_⟩
        refine Nat.le_of_not_lt fun hlt => ?_
        have := HQ.out.2 ⟨x, hx, hlt⟩
        cases this
    subst hgq
    clear HG HQ
    go_enter Try.func22, Try.ntmps22
    go_wp2_with fail
    refine CC.out.mono ?_
    rintro e W ⟨rfl, hB⟩
    have HB2 := Lib.hid ((HB.out (.cells #[.slice A len cap] 27)).trans (hB.mono (by simp)))
    clear hB CC
    go_wp2_with fail
    go_ret
    exact ⟨rfl, HB2.out⟩
  · obtain rfl : g = false := b_false HG.out fun h => hm (by have := h.1; rw [HL.out] at this; omega)
    clear CC
    go_enter Try.func22, Try.ntmps22
    go_wp2_with fail
    go_ret
    exact ⟨rfl, HB.out _⟩

end Go.Proofs.Ytffehnojcajhiaa.Wire.Entry

namespace Go.Proofs.Ytffehnojcajhiaa.Wire.Entry
open Go Go.RowKit Go.Proofs.Ytffehnojcajhiaa.Law

theorem no_list : noT.toList = [] := by rw [ByteArray.toList_eq]; rfl

theorem eq_rec (r : Rec) (q : Bool) (hq : q = true ↔ r.bare) (w : World) :
    (Op.equalIn 10000 24 (recV r) (.agg #[.int .i64 0, .int .i64 0, .int .i64 0, .string ⟨#[]⟩, .int .u32 0])).run Try.prog w = .ok q w := by
  have hS : Try.prog.underlying 24 = some (.struct (Try.prog.fieldsOf 24)) := by kernel_rfl
  have hp : Try.prog.stoodInHeld 24 = false := by kernel_rfl
  have ui := Try.underlying3
  have us := Try.underlying9
  have uu := Try.underlying22
  have z3 := Try.sizeOf3
  have z9 := Try.sizeOf9
  have z22 := Try.sizeOf22
  have a3 := Try.isAgg3
  have a9 := Try.isAgg9
  have a22 := Try.isAgg22
  obtain ⟨p, q1, a, key, val⟩ := r
  have hQ := Lib.hid hq
  clear hq
  rw [show (10000 : Nat) = 9999 + 1 from rfl, run_equalIn_agg w 9999 24 _ _ hS hp]
  simp only [Program.fieldsOf, Try.underlying24]
  by_cases h1 : p = 0
  · by_cases h2 : q1 = 0
    · by_cases h3 : a = 0
      · by_cases h4 : key = noT
        · by_cases h5 : val = 0
          · obtain rfl : q = true := hQ.out.2 ⟨h1, h2, h3, h4, h5⟩
            subst h1 h2 h3 h4 h5
            go_simp
            exact no_list
          · obtain rfl : q = false := b_false hQ.out fun h => h5 h.2.2.2.2
            subst h1 h2 h3
            go_simp
        · obtain rfl : q = false := b_false hQ.out fun h => h4 h.2.2.2.1
          have hk : (key.toList == (⟨#[]⟩ : ByteArray).toList) = false := (Lib.bytes_beq_false_iff _ _).2 h4
          subst h1 h2 h3
          go_simp
          intro hk2
          rw [hk2, show (⟨#[]⟩ : ByteArray).toList = [] from no_list] at hk
          cases hk
      · obtain rfl : q = false := b_false hQ.out fun h => h3 h.2.2.1
        subst h1 h2
        go_simp
    · obtain rfl : q = false := b_false hQ.out fun h => h2 h.2.1
      subst h1
      go_simp
  · obtain rfl : q = false := b_false hQ.out fun h => h1 h.1
    go_simp

set_option maxRecDepth 100000 in
set_option maxHeartbeats 4000000 in
theorem good_calls (e : Ent) (hw : e.wf) (u : Value) (w : World) (h : OldO w.heap.size w u e.ops) (g : Bool) (hg : g = true ↔ e.good) : Calls Try.prog 11 #[entV e u] w (RetB w g) := by
  obtain ⟨A, cap, rfl, _⟩ := h.form
  obtain ⟨kind, r, ops, n⟩ := e
  obtain ⟨len, hlen⟩ : ∃ len, ops.length = len := ⟨_, rfl⟩
  obtain ⟨nr, hnr⟩ := exB r.bare
  have HE : Hid (∀ w, (Op.equalIn 10000 24 (recV r) (.agg #[.int .i64 0, .int .i64 0, .int .i64 0, .string ⟨#[]⟩, .int .u32 0])).run Try.prog w = .ok nr w) := Lib.hid fun w => eq_rec r nr hnr w
  have hgd : Try.prog.eqGuardType Try.prog.depth 24 = false := by kernel_rfl
  have he := HE.out
  have HL := Lib.hid hlen
  have HG := Lib.hid hg
  have HR := Lib.hid hnr
  obtain ⟨ng, hng⟩ : ∃ ng : Bool, ((len : Int) == 0) = ng := ⟨_, rfl⟩
  obtain ⟨nn, hnn⟩ : ∃ nn : Bool, ((n : Int) == 0) = nn := ⟨_, rfl⟩
  have HNG : Hid (ng = true ↔ ops = []) := Lib.hid (by rw [← hng, beq_iff_eq, ← List.length_eq_zero_iff, hlen]; omega)
  have HNN : Hid (nn = true ↔ n = 0) := Lib.hid (by rw [← hnn, beq_iff_eq])
  have hX : ∀ k, EBox ((w.alloc (.cells #[.int .i64 kind, .int .i64 r.p, .int .i64 r.q, .int .i64 r.a, .string r.key, .int .u32 (r.val : Nat), .slice A ops.length cap, .int .i64 n] 29)).drewN k) w.heap.size ⟨kind, r, ops, n⟩ (.slice A ops.length cap) ∧
      Below w.heap.size w ((w.alloc (.cells #[.int .i64 kind, .int .i64 r.p, .int .i64 r.q, .int .i64 r.a, .string r.key, .int .u32 (r.val : Nat), .slice A ops.length cap, .int .i64 n] 29)).drewN k) ∧
      OldO ((w.alloc (.cells #[.int .i64 kind, .int .i64 r.p, .int .i64 r.q, .int .i64 r.a, .string r.key, .int .u32 (r.val : Nat), .slice A ops.length cap, .int .i64 n] 29)).drewN k).heap.size ((w.alloc (.cells #[.int .i64 kind, .int .i64 r.p, .int .i64 r.q, .int .i64 r.a, .string r.key, .int .u32 (r.val : Nat), .slice A ops.length cap, .int .i64 n] 29)).drewN k) (.slice A ops.length cap) ops := fun k => by
    have h1 := (Below.refl w.heap.size w).alloc (Nat.le_refl _) (.cells #[.int .i64 kind, .int .i64 r.p, .int .i64 r.q, .int .i64 r.a, .string r.key, .int .u32 (r.val : Nat), .slice A ops.length cap, .int .i64 n] 29)
    have h2 := lowN h1 k
    exact ⟨EBox.drewN (EBox.new w ⟨kind, r, ops, n⟩ _) k, h2, OpsAt.on h2 h⟩
  have HX := Lib.hid hX
  have HW := Lib.hid hw
  rw [hlen] at HX ⊢
  clear hlen hg hnr h hw hX
  go_enter Try.func11, Try.ntmps11
  go_wp2_with fail
  go_quiet (fail)
  clear he hgd HE hng hnn
  have hX := HX.out nq
  clear HX
  generalize ((w.alloc (.cells #[.int .i64 kind, .int .i64 r.p, .int .i64 r.q, .int .i64 r.a, .string r.key, .int .u32 (r.val : Nat), .slice A len cap, .int .i64 n] 29)).drewN nq) = w1 at hX ⊢
  obtain ⟨hE, hB, hO⟩ := hX
  obtain ⟨c0, c1, c2, c3, c4, c5, c6, c7⟩ := hE.cells
  have HB := Lib.hid hB
  have HO := Lib.hid hO
  clear hE hB hO
  simp only at c0 c1 c2 c3 c4 c5 c6 c7
  by_cases k0 : kind = 0
  · subst k0
    cases nr with
    | false =>
      obtain rfl : g = false := b_false HG.out fun h => by
        rcases h with ⟨_, h, _⟩ | ⟨h, _⟩ | ⟨h, _⟩ | ⟨h, _⟩
        · have := HR.out.2 h; cases this
        · simp at h
        · simp at h
        · simp at h
      go_wp2_with fail
      go_ret
      exact ⟨rfl, HB.out⟩
    | true =>
      cases ng with
      | false =>
        obtain rfl : g = false := b_false HG.out fun h => by
          rcases h with ⟨_, _, h, _⟩ | ⟨h, _⟩ | ⟨h, _⟩ | ⟨h, _⟩
          · have := HNG.out.2 h; cases this
          · simp at h
          · simp at h
          · simp at h
        go_wp2_with fail
        go_ret
        exact ⟨rfl, HB.out⟩
      | true =>
        obtain rfl : g = nn := by
          cases nn with
          | true => exact HG.out.2 (.inl ⟨rfl, HR.out.1 rfl, HNG.out.1 rfl, HNN.out.1 rfl⟩)
          | false =>
            refine b_false HG.out fun h => ?_
            rcases h with ⟨_, _, _, h⟩ | ⟨h, _⟩ | ⟨h, _⟩ | ⟨h, _⟩
            · have := HNN.out.2 h; cases this
            · simp at h
            · simp at h
            · simp at h
        go_wp2_with fail
        go_ret
        exact ⟨rfl, HB.out⟩
  · have b0 : ((kind : Int) == 0) = false := beq_eq_false_iff_ne.2 k0
    by_cases k1 : kind = 1
    · subst k1
      obtain ⟨gr, hgr⟩ := exB r.good
      have HGR := Lib.hid hgr
      have CR := Lib.hid (goodRecord_calls r gr hgr w1)
      have hs1 := HB.out.size
      clear hgr
      go_wp2_with fail
      refine CR.out.mono ?_
      rintro e w2 ⟨rfl, hB2⟩
      have HB2 := Lib.hid (HB.out.trans (hB2.mono hs1))
      clear hB2 CR HB HO c0 c1 c2 c3 c4 c5 c6 c7
      cases gr with
      | false =>
        obtain rfl : g = false := b_false HG.out fun h => by
          rcases h with ⟨h, _⟩ | ⟨_, h, _⟩ | ⟨h, _⟩ | ⟨h, _⟩
          · simp at h
          · have := HGR.out.2 h; cases this
          · simp at h
          · simp at h
        go_wp2_with fail
        go_ret
        exact ⟨rfl, HB2.out⟩
      | true =>
        cases ng with
        | false =>
          obtain rfl : g = false := b_false HG.out fun h => by
            rcases h with ⟨h, _⟩ | ⟨_, _, h, _⟩ | ⟨h, _⟩ | ⟨h, _⟩
            · simp at h
            · have := HNG.out.2 h; cases this
            · simp at h
            · simp at h
          go_wp2_with fail
          go_ret
          exact ⟨rfl, HB2.out⟩
        | true =>
          obtain rfl : g = nn := by
            cases nn with
            | true => exact HG.out.2 (.inr (.inl ⟨rfl, HGR.out.1 rfl, HNG.out.1 rfl, HNN.out.1 rfl⟩))
            | false =>
              refine b_false HG.out fun h => ?_
              rcases h with ⟨h, _⟩ | ⟨_, _, _, h⟩ | ⟨h, _⟩ | ⟨h, _⟩
              · simp at h
              · have := HNN.out.2 h; cases this
              · simp at h
              · simp at h
          go_wp2_with fail
          go_ret
          exact ⟨rfl, HB2.out⟩
    · have b1 : ((kind : Int) == 1) = false := beq_eq_false_iff_ne.2 k1
      by_cases k3 : kind = 3
      · subst k3
        cases nr with
        | false =>
          obtain rfl : g = false := b_false HG.out fun h => by
            rcases h with ⟨h, _⟩ | ⟨h, _⟩ | ⟨_, h, _⟩ | ⟨h, _⟩
            · simp at h
            · simp at h
            · have := HR.out.2 h; cases this
            · simp at h
          go_wp2_with fail
          go_ret
          exact ⟨rfl, HB.out⟩
        | true =>
          have HRB := Lib.hid (HR.out.1 rfl)
          clear HR
          obtain ⟨gr, hgr⟩ := exB (goodOps ops)
          have HGR := Lib.hid hgr
          have CR := Lib.hid (goodGraph_calls ops HW.out.2.2.2.1 _ gr hgr w1 HO.out)
          have hs1 := HB.out.size
          clear hgr
          go_wp2_with fail
          refine CR.out.mono ?_
          rintro e w2 ⟨rfl, hB2⟩
          have HB2 := Lib.hid (HB.out.trans (hB2.mono hs1))
          clear hB2 CR HB HO c0 c1 c2 c3 c4 c5 c6 c7
          cases gr with
          | false =>
            obtain rfl : g = false := b_false HG.out fun h => by
              rcases h with ⟨h, _⟩ | ⟨h, _⟩ | ⟨_, _, h, _⟩ | ⟨h, _⟩
              · simp at h
              · simp at h
              · have := HGR.out.2 h; cases this
              · simp at h
            go_wp2_with fail
            go_ret
            exact ⟨rfl, HB2.out⟩
          | true =>
            obtain rfl : g = nn := by
              cases nn with
              | true => exact HG.out.2 (.inr (.inr (.inl ⟨rfl, HRB.out, HGR.out.1 rfl, HNN.out.1 rfl⟩)))
              | false =>
                refine b_false HG.out fun h => ?_
                rcases h with ⟨h, _⟩ | ⟨h, _⟩ | ⟨_, _, _, h⟩ | ⟨h, _⟩
                · simp at h
                · simp at h
                · have := HNN.out.2 h; cases this
                · simp at h
            go_wp2_with fail
            go_ret
            exact ⟨rfl, HB2.out⟩
      · have b3 : ((kind : Int) == 3) = false := beq_eq_false_iff_ne.2 k3
        by_cases kk : kind = 2 ∨ kind = 4 ∨ kind = 5
        · have hgg : g = true ↔ r.bare ∧ ops = [] ∧ 0 ≤ n := HG.out.trans ⟨fun h => by
            rcases h with ⟨h, _⟩ | ⟨h, _⟩ | ⟨h, _⟩ | ⟨_, h⟩
            · exact absurd h k0
            · exact absurd h k1
            · exact absurd h k3
            · exact h, fun h => .inr (.inr (.inr ⟨kk, h⟩))⟩
          have HGG := Lib.hid hgg
          clear HG hgg k0 k1 k3
          by_cases hn : 0 ≤ n
          · have hbn : decide (0 ≤ n) = true := decide_eq_true hn
            have hge : g = (nr && ng) := by
              cases nr with
              | false => exact b_false HGG.out fun h => by have := HR.out.2 h.1; cases this
              | true =>
                cases ng with
                | false => exact b_false HGG.out fun h => by have := HNG.out.2 h.2.1; cases this
                | true => exact HGG.out.2 ⟨HR.out.1 rfl, HNG.out.1 rfl, hn⟩
            subst hge
            rcases kk with rfl | rfl | rfl <;> cases nr <;> cases ng
            all_goals
              go_wp2_with fail
              go_ret
              exact ⟨rfl, HB.out⟩
          · have hbn : decide (0 ≤ n) = false := decide_eq_false hn
            obtain rfl : g = false := b_false HGG.out fun h => hn h.2.2
            rcases kk with rfl | rfl | rfl <;> cases nr <;> cases ng
            all_goals
              go_wp2_with fail
              go_ret
              exact ⟨rfl, HB.out⟩
        · obtain rfl : g = false := b_false HG.out fun h => by
            rcases h with ⟨h, _⟩ | ⟨h, _⟩ | ⟨h, _⟩ | ⟨h, _⟩
            · exact absurd h k0
            · exact absurd h k1
            · exact absurd h k3
            · exact kk h
          have b2 : ((kind : Int) == 2) = false := beq_eq_false_iff_ne.2 fun h => kk (.inl h)
          have b4 : ((kind : Int) == 4) = false := beq_eq_false_iff_ne.2 fun h => kk (.inr (.inl h))
          have b5 : ((kind : Int) == 5) = false := beq_eq_false_iff_ne.2 fun h => kk (.inr (.inr h))
          clear kk k0 k1 k3
          go_wp2_with fail
          go_ret
          exact ⟨rfl, HB.out⟩

end Go.Proofs.Ytffehnojcajhiaa.Wire.Entry
