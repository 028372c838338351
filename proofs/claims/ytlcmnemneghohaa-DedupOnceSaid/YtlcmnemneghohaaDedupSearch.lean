/-
  Contracts of place's function literals, of slices.IndexFunc and sort.Search as place calls them, and of place.
-/
import Derived.Test.YtlcmnemneghohaaDedupLeaf
import Derived.Shelf.SlSorted.Search
namespace Go.Proofs.Ytlcmnemneghohaa.Dedup
open Go Go.RowKit Go.Lib Go.Sort Go.Shelf Go.Proofs.Ytlcmnemneghohaa.Law

theorem cell_grown' {W : World} {a : Addr} {v : Value} (h : W.cell? a = some v) (q : Nat) (os : Array Obj) : (grow (W.drewN q) os).cell? a = some v :=
  cell_grown (World.block_lt_of_cell? _ _ h) h q os

set_option maxRecDepth 100000 in
set_option maxHeartbeats 1000000 in
/-- Has the row these numbers: the function literal that IndexFunc is given. -/
theorem same_calls (B : Nat) (x s : Rw) (w : World) (h : w.heap[B]? = some (rwObj s)) :
    Calls Try.prog 26 #[rwV x, .pointer (some ⟨B, 0, none⟩)] w (fun e W => e = .returned (.bool (ordI x.p x.q s.p s.q == 0)) ∧ ∃ q os, W = grow (w.drewN q) os) := by
  have hlt := lt_of_some h
  have hB : Below w.heap.size w (w.alloc (rwObj x)) := alloc_low _ _
  obtain ⟨s0, s1, s2⟩ := boxR ((hB.block B hlt).trans h)
  obtain ⟨x0, x1, x2⟩ := boxR (heap_alloc_new w (rwObj x))
  have C := Lib.hid fun W => order_calls x s W
  generalize ordI x.p x.q s.p s.q = r at C ⊢
  clear hB h hlt
  go_enter Try.func26, Try.ntmps26
  go_wp2_with fail
  refine (C.out _).mono ?_
  rintro e w2 ⟨rfl, q, os, rfl⟩
  have HF : Hid (∃ q' os', grow ((w.alloc (rwObj x)).drewN q) os = grow (w.drewN q') os') := Lib.hid (by
    refine ⟨q, #[rwObj x] ++ os, ?_⟩
    rw [alloc_eq_grow, ← grow_grow]; rfl)
  generalize grow ((w.alloc (rwObj x)).drewN q) os = w3 at HF ⊢
  go_wp2_with fail
  go_ret
  exact ⟨rfl, HF.out⟩

set_option maxRecDepth 100000 in
set_option maxHeartbeats 1000000 in
/-- Stands the row behind these numbers: the function literal that Search is given. -/
theorem behind_calls (B R : Nat) (A : Option Addr) (n cap : Nat) (l : List Rw) (s : Rw) (i : Nat) (x : Rw) (hx : l[i]? = some x) (hn : l.length = n) (hm : n ≤ 281474976710656) (w : World) (h : w.heap[B]? = some (rwObj s))
    (hR : w.cell? ⟨R, 0, none⟩ = some (.slice A n cap)) (hl : OldW w.heap.size w (.slice A n cap) l) :
    Calls Try.prog 28 #[.int .i64 (i : Nat), .pointer (some ⟨R, 0, none⟩), .pointer (some ⟨B, 0, none⟩)] w fun e W => e = .returned (.bool (decide (0 < ordI x.p x.q s.p s.q))) ∧ ∃ q os, W = grow (w.drewN q) os := by
  have hi : i < n := by rw [← hn]; exact (List.getElem?_eq_some_iff.1 hx).1
  obtain ⟨b, off, rfl, hb, hc⟩ := hl.at (by omega)
  obtain ⟨c0, c1, c2⟩ := hc i x hx
  obtain ⟨s0, s1, s2⟩ := boxR h
  have C := Lib.hid fun W => order_calls x s W
  generalize ordI x.p x.q s.p s.q = r at C ⊢
  have hiI : (i : Int) < (n : Int) := by omega
  clear hl hx hc hn hm h hb
  go_enter Try.func28, Try.ntmps28
  go_wp2_with fail
  go_region_with (go_at_call 17; ((with_reducible refine (C.out _).mono ?_); rintro e W2 ⟨rfl, q, os, rfl⟩))
  all_goals go_wp2_with fail
  all_goals go_ret
  all_goals exact ⟨rfl, _, _, rfl⟩


/-- Where the first row with these numbers stands; -1: nowhere. -/
def IdxOf (l : List Rw) (p q : Int) (z : Int) : Prop :=
  (∃ (i : Nat) (x : Rw), z = (i : Int) ∧ l[i]? = some x ∧ isIt p q x = true ∧ ∀ j y, j < i → l[j]? = some y → isIt p q y = false) ∨ (z = -1 ∧ ∀ x ∈ l, isIt p q x = false)
def RetIdx (l : List Rw) (p q : Int) (w : World) (e : Ending) (W : World) : Prop := ∃ z, e = .returned (.int .i64 z) ∧ IdxOf l p q z ∧ Below w.heap.size w W

set_option maxRecDepth 1000000 in
set_option maxHeartbeats 2000000 in
theorem index_calls (B : Nat) (l : List Rw) (s : Rw) (v : Value) (w : World) (hm : l.length ≤ 281474976710656) (h : w.heap[B]? = some (rwObj s)) (hl : OldW w.heap.size w v l) :
    Calls Try.prog 25 #[v, .func (.func 26) #[] #[.pointer (some ⟨B, 0, none⟩)]] w (RetIdx l s.p s.q w) := by
  have eg : ∀ args w, (callFunc 26 args).run Try.prog w = .ok (.enter 26 args) w := enters_of Try.func26 (by kernel_rfl) rfl
  obtain ⟨A, cap, rfl, _⟩ := hl.form
  obtain ⟨n, hN⟩ : ∃ n, l.length = n := ⟨_, rfl⟩
  rw [hN] at hl hm ⊢
  have HN := Lib.hid hN
  have HL := Lib.hid hl
  have HH := Lib.hid h
  have HLT := Lib.hid (lt_of_some h)
  have HC : Hid (∀ (x : Rw) (W : World), W.heap[B]? = some (rwObj s) → Calls Try.prog 26 #[rwV x, .pointer (some ⟨B, 0, none⟩)] W fun e W2 => e = .returned (.bool (ordI x.p x.q s.p s.q == 0)) ∧ ∃ q os, W2 = grow (W.drewN q) os) := Lib.hid fun x W hW => same_calls B x s W hW
  clear hN hl h
  go_enter Try.func25, Try.ntmps25
  go_wp2_with fail
  go_loopw [8] (fun i wr => ∃ k : Nat, i = .int .i64 k ∧ k ≤ n ∧ Hid ((∀ j y, j < k → l[j]? = some y → isIt s.p s.q y = false) ∧ Below w.heap.size w wr)) (fun i _ => n - (intOf i).toNat)
  case atStart => exact ⟨0, rfl, Nat.zero_le _, Lib.hid ⟨fun j y hj => absurd hj (Nat.not_lt_zero _), Below.refl _ _⟩⟩
  case round =>
    obtain ⟨k, rfl, hk, HO⟩ := hrel
    by_cases hlt : k < n
    · obtain ⟨x, hx⟩ : ∃ x, l[k]? = some x := ⟨_, List.getElem?_eq_getElem (by rw [HN.out]; exact hlt)⟩
      obtain ⟨hK, hB⟩ := HO.out
      obtain ⟨b, off, rfl, hb, hc⟩ := (ThreeAt.low hB HL.out).at (by omega)
      obtain ⟨c0, c1, c2⟩ := hc k x hx
      have C := Lib.hid (HC.out x wr ((hB.block B HLT.out).trans HH.out))
      have HB := Lib.hid hB
      have HX := Lib.hid hx
      have HK := Lib.hid hK
      have HZ : Hid ((ordI x.p x.q s.p s.q == 0) = isIt s.p s.q x) := Lib.hid (by
        rw [Bool.eq_iff_iff, beq_iff_eq, ordI_zero, isIt_iff])
      have HLE : Hid (k + 1 ≤ n) := Lib.hid hlt
      clear hb hc hx hB hK HO
      cases hg : (ordI x.p x.q s.p s.q == 0) with
      | true =>
        rw [hg] at C HZ
        clear hg
        go_wp2_with (go_at_fn 26; refine C.out.mono ?_; rintro e w' ⟨rfl, nq, osq, rfl⟩)
        have HF : Hid (Below w.heap.size w (grow (wr.drewN nq) osq)) := Lib.hid (HB.out.trans ((grown_low wr nq osq).mono HB.out.size))
        generalize grow (wr.drewN nq) osq = w3 at HF ⊢
        go_wp2_with fail
        go_ret
        exact ⟨_, rfl, .inl ⟨k, x, rfl, HX.out, HZ.out.symm, HK.out⟩, HF.out⟩
      | false =>
        rw [hg] at C HZ
        clear hg
        go_wp2_with (go_at_fn 26; refine C.out.mono ?_; rintro e w' ⟨rfl, nq, osq, rfl⟩)
        have HF : Hid (Below w.heap.size w (grow (wr.drewN nq) osq)) := Lib.hid (HB.out.trans ((grown_low wr nq osq).mono HB.out.size))
        generalize grow (wr.drewN nq) osq = w3 at HF ⊢
        go_wp2_with fail
        go_roundw
        case rel =>
          exact ⟨k + 1, by go_num, HLE.out, Lib.hid ⟨fun j y hj hy => by
            rcases Nat.lt_or_ge j k with h1 | h1
            · exact HK.out j y h1 hy
            · obtain rfl : j = k := by omega
              rw [HX.out] at hy
              obtain rfl := Option.some.inj hy
              exact HZ.out.symm, HF.out⟩⟩
        case measure => have h := HLE.out; simp [intOf]; omega
    · obtain rfl : k = n := by omega
      go_wp2_with fail
      go_ret
      exact ⟨_, rfl, .inr ⟨rfl, fun x hx => by
        obtain ⟨j, hj⟩ := List.getElem?_of_mem hx
        exact HO.out.1 j x (by rw [← HN.out]; exact (List.getElem?_eq_some_iff.1 hj).1) hj⟩, HO.out.2⟩

set_option maxHeartbeats 4000000 in
set_option maxRecDepth 1000000 in
/-- sort.Search: a place behind which it is so, and ahead of which it isn't, whatever is asked. -/
theorem search_calls (g : Nat) (cb : Array Value) (n : Nat) (p : Nat → Bool) (w : World) (eg : ∀ args w, (callFunc g args).run Try.prog w = .ok (.enter g args) w) (hsz : n < 4611686018427387904)
    (hf : ∀ (m : Nat) (os : Array Obj) (i : Nat), i < n → Calls Try.prog g (#[.int .i64 (i : Nat)] ++ cb) (grow (w.drewN m) os) fun e w' => e = .returned (.bool (p i)) ∧ ∃ q os', w' = grow ((grow (w.drewN m) os).drewN q) os') :
    Calls Try.prog 27 #[.int .i64 (n : Nat), .func (.func g) #[] cb] w fun e w' => ∃ j : Nat, e = .returned (.int .i64 (j : Nat)) ∧ (j ≤ n ∧ (j ≠ 0 → p (j - 1) = false) ∧ (j < n → p j = true)) ∧ ∃ q os, w' = grow (w.drewN q) os := by
  have HF := Lib.hid hf
  clear hf
  go_enter Try.func27, Try.ntmps27
  go_wp2_with fail
  go_loopg [5, 6] n (fun kx s5 s6 wr => ∃ (lo hi q : Nat) (os : Array Obj), s5 = .int .i64 lo ∧ s6 = .int .i64 hi ∧ lo ≤ hi ∧ hi ≤ n ∧ hi - lo ≤ kx ∧ wr = grow (w.drewN q) os ∧
    Hid ((lo ≠ 0 → p (lo - 1) = false) ∧ (hi < n → p hi = true)))
  case atStart => exact ⟨0, n, 0, #[], rfl, rfl, Nat.zero_le _, Nat.le_refl _, by omega, (by rw [grow_empty]; rfl), Lib.hid ⟨fun h => absurd rfl h, fun h => absurd h (Nat.lt_irrefl _)⟩⟩
  case round =>
    obtain ⟨lo, hi, q, os, rfl, rfl, hlh, hin, hg, rfl, I⟩ := hrel
    by_cases hlt : lo < hi
    · have hc := HF.out q os ((lo + hi) / 2) (by omega)
      rw [show (((lo + hi) / 2 : Nat) : Int) = ((lo : Int) + (hi : Int)) / 2 by omega] at hc
      cases hp : p ((lo + hi) / 2) <;> rw [hp] at hc
      · have HP := Lib.hid hp
        clear hp
        go_wp2_with (go_at_fn g; refine hc.mono ?_; rintro e w' ⟨rfl, nq, osq, rfl⟩)
        go_roundg (hi - ((lo + hi) / 2 + 1))
        case measure => omega
        case rel =>
          exact ⟨(lo + hi) / 2 + 1, hi, q + nq, os ++ osq, by rw [show ((lo : Int) + (hi : Int)) / 2 + 1 = (((lo + hi) / 2 + 1 : Nat) : Int) by omega], rfl, by omega, hin, Nat.le_refl _, by show grow (grow ((w.drewN q).drewN nq) os) osq = _; rw [grow_grow, World.drewN_drewN], Lib.hid ⟨fun _ => HP.out, I.out.2⟩⟩
      · have HP := Lib.hid hp
        clear hp
        go_wp2_with (go_at_fn g; refine hc.mono ?_; rintro e w' ⟨rfl, nq, osq, rfl⟩)
        go_roundg ((lo + hi) / 2 - lo)
        case measure => omega
        case rel =>
          exact ⟨lo, (lo + hi) / 2, q + nq, os ++ osq, rfl, by rw [show ((lo : Int) + (hi : Int)) / 2 = (((lo + hi) / 2 : Nat) : Int) by omega], by omega, by omega, Nat.le_refl _, by show grow (grow ((w.drewN q).drewN nq) os) osq = _; rw [grow_grow, World.drewN_drewN], Lib.hid ⟨I.out.1, fun _ => HP.out⟩⟩
    · obtain rfl : hi = lo := by omega
      go_wp2_with fail
      go_ret
      exact ⟨hi, rfl, ⟨hin, I.out.1, I.out.2⟩, q, os, rfl⟩

end Go.Proofs.Ytlcmnemneghohaa.Dedup
