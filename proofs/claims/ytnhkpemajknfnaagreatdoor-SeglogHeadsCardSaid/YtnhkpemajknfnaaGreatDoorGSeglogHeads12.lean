/-
  Put together out of texts of one chain: what they hold stands ahead of each.
-/
import Derived.Test.YtnhkpemajknfnaaGreatDoorGSeglogHeads11
import Derived.LoopTactic
import Derived.Lib.QuietBelow
import Derived.BigQuiet
import Derived.WalkSmall
/-
  Contract of the log's syncAll.
-/
namespace Go.Proofs.YtnhkpemajknfnaaGreatDoor.Seglog
open Go Go.RowKit Go.Lib Go.Proofs.YtnhkpemajknfnaaGreatDoor.Law Go.Proofs.YtnhkpemajknfnaaGreatDoor.Disk

/-- What making files durable, one behind the other till one is refused, answers, and what it makes of the disk. -/
def allN (D : DS) : List ByteArray → Nat
  | [] => 0
  | s :: r => if D.syncN s = 0 then allN (D.sync s) r else D.syncN s
def allD (D : DS) : List ByteArray → DS
  | [] => D
  | s :: r => if D.syncN s = 0 then allD (D.sync s) r else D
theorem sync_refused {D : DS} {s : ByteArray} (h : D.syncN s ≠ 0) : D.sync s = D := by unfold DS.sync; rw [if_neg h]
/-- A log's files. -/
def filesL (p : ByteArray) (l : List SV) : List ByteArray := l.map fun q => fileN p q.1.base
theorem LogIn.same {R : Nat → Prop} {base lb db room : Nat} {p : ByteArray} {bk : Bool} {W W' : World} {v : Value} {l : List SV} (h : LogIn R base lb db p room bk W v l) (hs : SameOn R W W') : LogIn R base lb db p room bk W' v l := h.keep hs.1 hs.2

set_option maxRecDepth 100000 in
set_option maxHeartbeats 4000000 in
theorem syncAll_calls {Fr : Nat → Prop} {w W : World} {base db lb room : Nat} {D : DS} {p : ByteArray} {v : Value} {bk : Bool} {l : List SV} (hD : Dx Fr w db D W) (hL : LogIn Fr base lb db p room bk W v l) (hp : p.size ≤ 13)
    (hbs : ∀ q ∈ l, q.1.base ≤ 4611686018427387904) (hl : l.length ≤ 4294967296) (htab : Tab10 w) :
    Calls Tryz.prog 49 #[.pointer (some ⟨lb, 0, none⟩)] W (OnDisk Fr w W db (allD D (filesL p l)) (allN D (filesL p l))) := by
  obtain ⟨⟨_, _, _, c3, _⟩, _⟩ := hL.block.cells
  obtain ⟨A, cap, rfl⟩ := rowForm hL.segs.1
  obtain ⟨n, hn⟩ : ∃ n, l.length = n := ⟨_, rfl⟩
  rw [hn] at c3 hl
  obtain ⟨DF, hDF⟩ : ∃ x, allD D (filesL p l) = x := ⟨_, rfl⟩
  obtain ⟨NF, hNF⟩ : ∃ x, allN D (filesL p l) = x := ⟨_, rfl⟩
  rw [hDF, hNF]
  have HN := Lib.hid hn
  have HIN : Hid (∀ wr, SameOn Fr W wr → LogIn Fr base lb db p room bk wr (.slice A l.length cap) l) := Lib.hid fun wr h => LogIn.same hL h
  have HS0 : Hid (Dx Fr w db D W ∧ SameOn Fr W W ∧ allD D ((filesL p l).drop 0) = DF ∧ allN D ((filesL p l).drop 0) = NF) := Lib.hid ⟨hD, ⟨fun _ _ => rfl, Nat.le_refl _⟩, hDF, hNF⟩
  have HCS : Hid (∀ (k : Nat) (x : SV) (A1 : Option Addr) (m c : Nat) (Dk : DS) (wr W0 : World), l[k]? = some x → Dx Fr w db Dk wr → SameOn Fr W wr → Below wr.heap.size wr W0 →
      Calls Tryz.prog 70 #[.pointer (some ⟨lb, 0, none⟩), segV x.1.base A1 m c] W0 (OnDisk Fr w W db (Dk.sync (fileN p x.1.base)) (Dk.syncN (fileN p x.1.base)))) := Lib.hid fun k x A1 m c Dk wr W0 hx h1 h2 hB => by
    have hin := (LogIn.same hL h2).keep (W' := W0) (fun b hb => hB.block b (Dx.in h1 hb).2) hB.size
    refine (syncS_calls (n := m) (c := c) (A := A1) (h1.below hB) hin.block hin.rl hp (hbs x (List.mem_of_getElem? hx)) htab).mono ?_
    rintro e W' ⟨rfl, h3, h4⟩
    exact ⟨rfl, h3, SameOn.trans (SameOn.trans h2 (h1.sameOn hB)) h4⟩
  clear hD hL hp hbs htab hn hDF hNF
  go_enter Tryz.func49, Tryz.ntmps49
  go_wp2_with fail
  go_loopw [11] (fun i wr => ∃ k Dk, i = .int .i64 (k : Nat) ∧ k ≤ n ∧ Hid (Dx Fr w db Dk wr ∧ SameOn Fr W wr ∧ allD Dk ((filesL p l).drop k) = DF ∧ allN Dk ((filesL p l).drop k) = NF)) (fun i _ => n - (intOf i).toNat)
  case atStart => exact ⟨0, D, rfl, Nat.zero_le _, HS0⟩
  case round =>
    obtain ⟨k, Dk, rfl, hk, HK⟩ := hrel
    by_cases hlt : k < n
    · have hkl : k < l.length := by rw [HN.out]; exact hlt
      have hx : l[k]? = some l[k] := List.getElem?_eq_getElem hkl
      have hin := HIN.out wr HK.out.2.1
      obtain ⟨hnc, g, o, rfl, hg, q0, q1⟩ := hin.segs.cell (i := k) rfl hkl
      rw [HN.out] at hnc
      obtain ⟨A1, c1, hv1⟩ := rowForm (hin.segs.2 l[k] (List.getElem_mem _))
      rw [hv1] at q1
      have hCS := HCS.out k l[k] A1 l[k].1.es.length c1 Dk wr (wr.alloc (.cells #[.int .i64 (l[k].1.base : Nat), .slice A1 l[k].1.es.length c1] 84)) hx HK.out.1 HK.out.2.1 ((Below.refl _ _).alloc (Nat.le_refl _) _)
      have hdrop : (filesL p l).drop k = fileN p l[k].1.base :: (filesL p l).drop (k + 1) := by
        unfold filesL
        rw [List.drop_eq_getElem_cons (by rw [List.length_map]; exact hkl), List.getElem_map]
      obtain ⟨Dx', hDx'⟩ : ∃ x, Dk.sync (fileN p l[k].1.base) = x := ⟨_, rfl⟩
      obtain ⟨Nx, hNx⟩ : ∃ x, Dk.syncN (fileN p l[k].1.base) = x := ⟨_, rfl⟩
      have HNXT : Hid (Nx = 0 → allD Dx' ((filesL p l).drop (k + 1)) = DF ∧ allN Dx' ((filesL p l).drop (k + 1)) = NF) := Lib.hid fun h => by
        obtain ⟨_, _, h3, h4⟩ := HK.out
        rw [hdrop] at h3 h4
        rw [allD, hNx, if_pos h, hDx'] at h3
        rw [allN, hNx, if_pos h, hDx'] at h4
        exact ⟨h3, h4⟩
      have HEND : Hid (Nx ≠ 0 → Dx' = DF ∧ Nx = NF) := Lib.hid fun h => by
        obtain ⟨_, _, h3, h4⟩ := HK.out
        rw [hdrop] at h3 h4
        rw [allD, hNx, if_neg h] at h3
        rw [allN, hNx, if_neg h] at h4
        have h5 := sync_refused (D := Dk) (s := fileN p l[k].1.base) (by rw [hNx]; exact h)
        exact ⟨by rw [← hDx', h5]; exact h3, h4⟩
      rw [hDx', hNx] at hCS
      obtain ⟨B, hB⟩ : ∃ B, l[k].1.base = B := ⟨_, rfl⟩
      obtain ⟨m, hm⟩ : ∃ m, l[k].1.es.length = m := ⟨_, rfl⟩
      rw [hB, hm] at hCS
      rw [hB] at q0
      rw [hm] at q1
      have CS := Lib.hid hCS
      clear hx hin hv1 hCS hdrop hDx' hNx hB hm HK
      go_wp2_with fail
      refine CS.out.mono ?_
      rintro e W3 ⟨rfl, hO1, hO2⟩
      have HO := Lib.hid (And.intro hO1 hO2)
      clear CS hO1 hO2 q0 q1
      by_cases h0 : Nx = 0
      · subst h0
        go_wp2_with fail
        go_roundw
        case rel => exact ⟨k + 1, Dx', by go_num, by omega, Lib.hid ⟨HO.out.1, HO.out.2, (HNXT.out (by simp)).1, (HNXT.out (by simp)).2⟩⟩
        case measure => simp [intOf]; omega
      · have h0I : ¬ (Nx : Int) = 0 := by omega
        obtain ⟨e1, e2⟩ := HEND.out h0
        subst e1 e2
        clear HEND HNXT h0
        go_wp2_with fail
        go_ret
        exact ⟨rfl, HO.out.1, HO.out.2⟩
    · obtain rfl : k = n := by omega
      have HF : Hid (Dk = DF ∧ (0 : Nat) = NF) := Lib.hid (by
        obtain ⟨_, _, h3, h4⟩ := HK.out
        rw [List.drop_of_length_le (by unfold filesL; rw [List.length_map, HN.out]; exact Nat.le_refl _)] at h3 h4
        exact ⟨h3, h4⟩)
      go_wp2_with fail
      go_ret
      exact ⟨by rw [← HF.out.2]; rfl, by rw [← HF.out.1]; exact HK.out.1, HK.out.2.1⟩

end Go.Proofs.YtnhkpemajknfnaaGreatDoor.Seglog

/-
  A log and its disk; contract of the log's Sync.
-/
namespace Go.Proofs.YtnhkpemajknfnaaGreatDoor.Seglog
open Go Go.RowKit Go.Lib Go.Proofs.YtnhkpemajknfnaaGreatDoor.Law Go.Proofs.YtnhkpemajknfnaaGreatDoor.Disk

/-- A log with its disk, all of the log in the blocks Fr, none of which is the disk's or older than the law. -/
def Lg (Fr : Nat → Prop) (w : World) (base lb db : Nat) (D : DS) (p : ByteArray) (room : Nat) (bk : Bool) (v : Value) (l : List SV) (W : World) : Prop := Dx Fr w db D W ∧ LogIn Fr base lb db p room bk W v l
theorem Dx.setIn {Fr : Nat → Prop} {w W : World} {db : Nat} {D : DS} (h : Dx Fr w db D W) {b i : Nat} (hb : Fr b) (v : Value) : Dx Fr w db D (W.setCell ⟨b, i, none⟩ v) :=
  Disk.Dx.turn h (by simp [World.setCell]) (fun k _ hf => Below.heap_setCell _ _ _ k (fun e => hf (by have e' : k = b := e; rw [e']; exact hb))) rfl rfl rfl
theorem LogIn.set4 {R : Nat → Prop} {base lb db room : Nat} {p : ByteArray} {bk : Bool} {W : World} {v : Value} {l : List SV} (h : LogIn R base lb db p room bk W v l) (hv : v.ownBlock ≠ some lb) (he : ∀ q ∈ l, q.2.ownBlock ≠ some lb) (b : Bool) : LogIn R base lb db p room b (W.setCell ⟨lb, 4, none⟩ (.bool b)) v l := by
  refine ⟨h.le, LB.set4 h.block b, ⟨h.segs.1.keep fun g hg => Below.heap_setCell _ _ _ g (fun e => hv (by rw [hg]; exact congrArg some e)), fun q hq => (h.segs.2 q hq).keep fun g hg => Below.heap_setCell _ _ _ g (fun e => he q hq (by rw [hg]; exact congrArg some e))⟩, h.rl, h.rv, h.re, fun k hk => ?_⟩
  have := h.lt k hk
  simpa [World.setCell] using this
theorem LogIn.rowNot {R : Nat → Prop} {base lb db room : Nat} {p : ByteArray} {bk : Bool} {W : World} {v : Value} {l : List SV} (h : LogIn R base lb db p room bk W v l) : v.ownBlock ≠ some lb ∧ ∀ q ∈ l, q.2.ownBlock ≠ some lb := by
  have hb := h.block
  unfold LB at hb
  refine ⟨fun e => ?_, fun q hq e => ?_⟩
  · obtain ⟨_, _, cur, h1⟩ := h.segs.1.own lb e
    rw [hb] at h1
    simp only [Option.some.injEq, Obj.cells.injEq] at h1
    exact absurd h1.2.1 (by decide)
  · obtain ⟨_, _, cur, h1⟩ := (h.segs.2 q hq).own lb e
    rw [hb] at h1
    simp only [Option.some.injEq, Obj.cells.injEq] at h1
    exact absurd h1.2.1 (by decide)
theorem Lg.broke {Fr : Nat → Prop} {w W : World} {base lb db room : Nat} {D : DS} {p : ByteArray} {v : Value} {bk : Bool} {l : List SV} (h : Lg Fr w base lb db D p room bk v l W) (b : Bool) : Lg Fr w base lb db D p room b v l (W.setCell ⟨lb, 4, none⟩ (.bool b)) :=
  ⟨Dx.setIn h.1 h.2.rl _, LogIn.set4 h.2 h.2.rowNot.1 h.2.rowNot.2 b⟩
/-- What a call of the log answers and leaves. -/
def Turned (Fr : Nat → Prop) (w W0 : World) (base lb db : Nat) (D : DS) (p : ByteArray) (room : Nat) (v : Value) (l : List SV) (n : Nat) (e : Ending) (W : World) : Prop := e = .returned (.int .i64 (n : Nat)) ∧ Lg Fr w base lb db D p room (n != 0) v l W ∧ ∀ k, Fr k → k ≠ lb → W.heap[k]? = W0.heap[k]?

set_option maxRecDepth 100000 in
set_option maxHeartbeats 1000000 in
theorem sync_calls {Fr : Nat → Prop} {w W : World} {base db lb room : Nat} {D : DS} {p : ByteArray} {v : Value} {l : List SV} (h : Lg Fr w base lb db D p room false v l W) (hp : p.size ≤ 13)
    (hbs : ∀ q ∈ l, q.1.base ≤ 4611686018427387904) (hl : l.length ≤ 4294967296) (htab : Tab10 w) :
    Calls Tryz.prog 23 #[.pointer (some ⟨lb, 0, none⟩)] W (Turned Fr w W base lb db (allD D (filesL p l)) p room v l (allN D (filesL p l))) := by
  have C0 := Lib.hid (refuses_calls lb db room p v false W h.2.block)
  have C1 := Lib.hid (syncAll_calls h.1 h.2 hp hbs hl htab)
  generalize allD D (filesL p l) = D' at C1 ⊢
  generalize allN D (filesL p l) = M at C1 ⊢
  have HL := Lib.hid h.2
  clear h hp hbs hl htab
  go_enter Tryz.func23, Tryz.ntmps23
  go_wp2_with fail
  refine C0.out.mono ?_
  clear C0
  rintro e W1 ⟨rfl, rfl⟩
  go_wp2_with fail
  refine C1.out.mono ?_
  clear C1
  rintro e W2 ⟨rfl, hD2, hS2⟩
  have HSM := Lib.hid hS2
  have HG : Hid (Lg Fr w base lb db D' p room false v l W2) := Lib.hid ⟨hD2, LogIn.same HL.out hS2⟩
  clear hD2 hS2
  go_wp2_with fail
  refine (breaks_calls lb db room M p v false W2 HG.out.2.block).mono ?_
  rintro e W3 ⟨rfl, rfl⟩
  have HF := Lib.hid (HG.out.broke (M != 0))
  clear HG HL
  go_wp2_with fail
  go_ret
  exact ⟨rfl, HF.out, fun k hk hn => (Below.heap_setCell _ _ _ k (fun e => hn e)).trans (HSM.out.1 k hk)⟩

end Go.Proofs.YtnhkpemajknfnaaGreatDoor.Seglog

/-
  Contract of the log's cutHead.
-/
namespace Go.Proofs.YtnhkpemajknfnaaGreatDoor.Seglog
open Go Go.RowKit Go.Lib Go.Proofs.YtnhkpemajknfnaaGreatDoor.Law Go.Proofs.YtnhkpemajknfnaaGreatDoor.Disk

/-- The log's row is put in. -/
theorem Lg.row {Fr : Nat → Prop} {w W : World} {base lb db room : Nat} {D : DS} {p : ByteArray} {v v' : Value} {bk : Bool} {l' : List SV} (hD : Dx Fr w db D W) (hb : LB W lb db p room v bk) (hle : base ≤ lb) (hs : SegsAt W base v' l') (rl : Fr lb)
    (rv : ∀ g, v'.ownBlock = some g → Fr g) (re : ∀ q ∈ l', ∀ g, q.2.ownBlock = some g → Fr g) : Lg Fr w base lb db D p room bk v' l' (W.setCell ⟨lb, 3, none⟩ v') := by
  have hb' := hb
  unfold LB at hb'
  have h1 : v'.ownBlock ≠ some lb := fun e => by
    obtain ⟨_, _, cur, h2⟩ := hs.1.own lb e
    rw [hb'] at h2
    simp only [Option.some.injEq, Obj.cells.injEq] at h2
    exact absurd h2.2.1 (by decide)
  have h2 : ∀ q ∈ l', q.2.ownBlock ≠ some lb := fun q hq e => by
    obtain ⟨_, _, cur, h3⟩ := (hs.2 q hq).own lb e
    rw [hb'] at h3
    simp only [Option.some.injEq, Obj.cells.injEq] at h3
    exact absurd h3.2.1 (by decide)
  refine ⟨Dx.setIn hD rl _, hle, LB.set3 hb v', ⟨hs.1.keep fun g hg => Below.heap_setCell _ _ _ g (fun e => h1 (by rw [hg]; exact congrArg some e)), fun q hq => (hs.2 q hq).keep fun g hg => Below.heap_setCell _ _ _ g (fun e => h2 q hq (by rw [hg]; exact congrArg some e))⟩, rl, rv, re, fun k hk => ?_⟩
  have := (Dx.in hD hk).2
  simpa [World.setCell] using this
theorem Dx.grown {Fr : Nat → Prop} {w W W' : World} {db : Nat} {D : DS} (h : Dx Fr w db D W) {g : Nat} (hg : Fr g) (hgr : W.grownBy W' (some g)) : Dx Fr w db D W' :=
  Disk.Dx.turn h hgr.size (fun k hk hf => hgr.block k hk (fun e => hf (by simp only [Option.some.injEq] at e; rw [e]; exact hg))) hgr.os hgr.tape hgr.output

/-- Segments ahead of a place go: the disk, the answer, how many went. -/
def headGo (p : ByteArray) (a : Nat) : DS → List SV → DS × Nat × Nat
  | D, s :: t :: r => if s.1.next ≤ a then (if DS.goneN D (fileN p s.1.base) = 0 then ((headGo p a (DS.gone D (fileN p s.1.base)) (t :: r)).1, (headGo p a (DS.gone D (fileN p s.1.base)) (t :: r)).2.1, (headGo p a (DS.gone D (fileN p s.1.base)) (t :: r)).2.2 + 1)
      else (DS.gone D (fileN p s.1.base), DS.goneN D (fileN p s.1.base), 0)) else (D, 0, 0)
  | D, _ => (D, 0, 0)
theorem gone_made (D : DS) (s : ByteArray) : (DS.gone D s).made ≤ D.made + 1 := by
  have h1 : ∀ E : DS, (E.sync s).made = E.made := fun E => by unfold DS.sync; split <;> rfl
  unfold DS.gone
  split
  · rw [h1]
    unfold DS.remove
    split
    · exact Nat.le_refl _
    · omega
  · omega
theorem all_made : ∀ (l : List ByteArray) (D : DS), (allD D l).made = D.made
  | [], D => rfl
  | s :: r, D => by
    unfold allD
    split
    · rw [all_made r]; unfold DS.sync; split <;> rfl
    · rfl

/-- Of Fr's blocks all lie as they lay but the log's own and its row's. -/
def KeptOn (Fr : Nat → Prop) (lb : Nat) (v : Value) (W W' : World) : Prop := ∀ k, Fr k → k ≠ lb → v.ownBlock ≠ some k → W'.heap[k]? = W.heap[k]?
/-- What cutHead answers and leaves. -/
def HeadCut (Fr : Nat → Prop) (w W0 : World) (base lb db : Nat) (D : DS) (p : ByteArray) (room : Nat) (v0 : Value) (l : List SV) (n : Nat) (e : Ending) (W : World) : Prop := e = .returned (.int .i64 (n : Nat)) ∧ ∃ v, Lg Fr w base lb db D p room false v l W ∧ KeptOn Fr lb v0 W0 W

set_option maxRecDepth 100000 in
set_option maxHeartbeats 4000000 in
theorem cutHead_calls {Fr : Nat → Prop} {w W : World} {base db lb room : Nat} {D D1 DF : DS} {p : ByteArray} {v : Value} {l : List SV} (h : Lg Fr w base lb db D p room false v l W) (hp : p.size ≤ 13) (hmade : D.made + l.length ≤ 4294967296)
    (hbs : ∀ q ∈ l, q.1.base ≤ 4611686018427387904) (hb : ∀ q ∈ l, q.1.next ≤ 9223372036854775807) (hl : l.length ≤ 4294967296) (hl0 : 0 < l.length) (hcap : ∀ A n c, v = .slice A n c → c ≤ 9223372036854775807) (htab : Tab10 w) (a : Nat)
    (hD1 : allD D (filesL p l) = D1) (h0 : allN D (filesL p l) = 0) (G : Nat) (hgo : headGo p a D1 l = (DF, 0, G)) :
    Calls Tryz.prog 52 #[.pointer (some ⟨lb, 0, none⟩), .int .i64 (a : Nat)] W (HeadCut Fr w W base lb db DF p room v (l.drop G) 0) := by
  have C1 := Lib.hid (syncAll_calls h.1 h.2 hp hbs hl htab)
  rw [hD1, h0] at C1
  have hm1 : D1.made = D.made := by rw [← hD1]; exact all_made _ _
  obtain ⟨⟨_, _, _, c3, _⟩, _⟩ := h.2.block.cells
  obtain ⟨A, cap, rfl⟩ := rowForm h.2.segs.1
  obtain ⟨_, g, o, rfl⟩ : l.length ≤ cap ∧ ∃ g o, A = some ⟨g, o, none⟩ := by
    obtain ⟨h1, g, o, h2, _⟩ := h.2.segs.cell (i := 0) rfl hl0
    exact ⟨h1, g, o, h2⟩
  obtain ⟨n, hn⟩ : ∃ n, l.length = n := ⟨_, rfl⟩
  have hleB := h.2.le
  have HIN : Hid (∀ wr, SameOn Fr W wr → LogIn Fr base lb db p room false wr (.slice (some ⟨g, o, none⟩) n cap) l) := Lib.hid fun wr hs => by rw [← hn]; exact LogIn.same h.2 hs
  have HCAP := Lib.hid (hcap _ _ _ rfl)
  have HN := Lib.hid hn
  have HRM : Hid (∀ (k : Nat) (x : SV) (A1 : Option Addr) (m c : Nat) (Dk : DS) (wr W0 : World), l[k]? = some x → Dk.made ≤ 4294967296 → Dx Fr w db Dk wr → SameOn Fr W wr → Below wr.heap.size wr W0 →
      Calls Tryz.prog 76 #[.pointer (some ⟨lb, 0, none⟩), segV x.1.base A1 m c] W0 (OnDisk Fr w W db (DS.gone Dk (fileN p x.1.base)) (DS.goneN Dk (fileN p x.1.base)))) := Lib.hid fun k x A1 m c Dk wr W0 hx hmk h1 h2 hB => by
    have hin := (HIN.out wr h2).keep (W' := W0) (fun b hb => hB.block b (Dx.in h1 hb).2) hB.size
    refine (removeS_calls (n := m) (c := c) (A := A1) (h1.below hB) hmk hin.block hin.rl hp (hbs x (List.mem_of_getElem? hx)) htab).mono ?_
    rintro e W' ⟨rfl, h3, h4⟩
    exact ⟨rfl, h3, SameOn.trans (SameOn.trans h2 (h1.sameOn hB)) h4⟩
  have HCO : Hid (∀ (k m : Nat) (W0 : World), 0 < k → k < n → n - k = m → SegsAt W0 base (.slice (some ⟨g, o, none⟩) n cap) l → Calls Tryz.prog 75 #[.slice (some ⟨g, o, none⟩) n cap, .int .i64 0, .int .i64 (k : Nat)] W0 fun e W => e = .returned (.slice (some ⟨g, o, none⟩) m cap) ∧ Hid (SegsAt W base (.slice (some ⟨g, o, none⟩) m cap) (l.drop k) ∧ W0.grownBy W (some g))) := Lib.hid fun k m W0 e1 e2 e3 hs => by
    have h1 := cutOut_calls base g o cap n 0 k l W0 hn e1 (by omega) hs
    rw [show 0 + (n - k) = m by omega, List.take_zero, List.nil_append] at h1
    exact h1.mono fun e W h => ⟨h.1, Lib.hid h.2⟩
  have HNB : Hid (∀ q ∈ l, q.1.base + q.1.es.length ≤ 9223372036854775807) := Lib.hid hb
  have HGO := Lib.hid hgo
  have HM1 : Hid (D1.made + n ≤ 4294967296) := Lib.hid (by rw [hm1, ← hn]; exact hmade)
  rw [hn] at hl hl0
  clear h hp hmade hbs hb hcap htab hD1 h0 hgo hm1 hn c3
  go_enter Tryz.func52, Tryz.ntmps52
  go_wp2_with fail
  refine C1.out.mono ?_
  clear C1
  rintro e W1 ⟨rfl, hD2, hS2⟩
  have HS0 : Hid (Dx Fr w db D1 W1 ∧ SameOn Fr W W1) := Lib.hid ⟨hD2, hS2⟩
  clear hD2 hS2
  go_wp2_with fail
  go_loopw [6] (fun i wr => ∃ k Dk, i = .int .i64 (k : Nat) ∧ k < n ∧ Hid (Dx Fr w db Dk wr ∧ SameOn Fr W wr ∧ Dk.made + n ≤ 4294967296 + k ∧ k ≤ G ∧ headGo p a Dk (l.drop k) = (DF, 0, G - k))) (fun i _ => n - (intOf i).toNat)
  case atStart => exact ⟨0, D1, rfl, hl0, Lib.hid ⟨HS0.out.1, HS0.out.2, HM1.out, Nat.zero_le _, HGO.out⟩⟩
  case round =>
    clear HS0 HGO
    obtain ⟨k, Dk, rfl, hk, HK⟩ := hrel
    have hkl : k < l.length := by rw [HN.out]; exact hk
    have hx : l[k]? = some l[k] := List.getElem?_eq_getElem hkl
    have hin := HIN.out wr HK.out.2.1
    obtain ⟨⟨_, _, _, c3, _⟩, f3⟩ := hin.block.cells
    obtain ⟨hnc, g', o', hgo', hg, q0, q1⟩ := hin.segs.cell (i := k) HN.out hkl
    simp only [Option.some.injEq, Addr.mk.injEq, and_true] at hgo'
    obtain ⟨rfl, rfl⟩ := hgo'
    obtain ⟨A1, c1, hv1⟩ := rowForm (hin.segs.2 l[k] (List.getElem_mem _))
    rw [hv1] at q1
    have hdrop : l.drop k = l[k] :: l.drop (k + 1) := List.drop_eq_getElem_cons hkl
    have w1 : IntKind.i64.wrap ((n : Int) - 1) = (((n - 1 : Nat)) : Int) := by rw [IntWalk.i64_in _ (by omega)]; omega
    obtain ⟨n1, hn1⟩ : ∃ n1, n - 1 = n1 := ⟨_, rfl⟩
    rw [hn1] at w1
    have hCN := next_calls l[k].1.base A1 l[k].1.es.length c1 (HNB.out l[k] (List.getElem_mem _))
    have hRM := fun wr' (hw : Below wr.heap.size wr wr') => HRM.out k l[k] A1 l[k].1.es.length c1 Dk wr wr' hx (by have := HK.out.2.2.1; omega) HK.out.1 HK.out.2.1 hw
    obtain ⟨GD, hGD⟩ : ∃ x, DS.gone Dk (fileN p l[k].1.base) = x := ⟨_, rfl⟩
    obtain ⟨GN, hGN⟩ : ∃ x, DS.goneN Dk (fileN p l[k].1.base) = x := ⟨_, rfl⟩
    obtain ⟨X, hX⟩ : ∃ x, l[k].1.base + l[k].1.es.length = x := ⟨_, rfl⟩
    have HGM : Hid (GD.made ≤ Dk.made + 1) := Lib.hid (by rw [← hGD]; exact gone_made _ _)
    have HSTEP : Hid (k + 1 < n → X ≤ a → GN = 0 ∧ k + 1 ≤ G ∧ headGo p a GD (l.drop (k + 1)) = (DF, 0, G - (k + 1))) := Lib.hid fun e1 e2 => by
      obtain ⟨_, _, _, h3, h4⟩ := HK.out
      have hd2 : l.drop (k + 1) = l[k + 1]'(by rw [HN.out]; exact e1) :: l.drop (k + 2) := List.drop_eq_getElem_cons (by rw [HN.out]; exact e1)
      rw [hdrop, hd2, headGo, if_pos (by rw [Sg.next, hX]; exact e2), hGD, hGN] at h4
      by_cases e3 : GN = 0
      · rw [if_pos e3, ← hd2] at h4
        simp only [Prod.mk.injEq] at h4
        refine ⟨e3, by omega, ?_⟩
        rw [← h4.1, ← h4.2.1, show G - (k + 1) = (headGo p a GD (l.drop (k + 1))).2.2 by omega]
      · rw [if_neg e3] at h4
        simp only [Prod.mk.injEq] at h4
        exact absurd h4.2.1 e3
    have HEND : Hid (¬ (k + 1 < n ∧ X ≤ a) → Dk = DF ∧ G = k) := Lib.hid fun e => by
      obtain ⟨_, _, _, h3, h4⟩ := HK.out
      have h5 : headGo p a Dk (l.drop k) = (Dk, 0, 0) := by
        by_cases e1 : k + 1 < n
        · have hd2 : l.drop (k + 1) = l[k + 1]'(by rw [HN.out]; exact e1) :: l.drop (k + 2) := List.drop_eq_getElem_cons (by rw [HN.out]; exact e1)
          rw [hdrop, hd2, headGo, if_neg (by rw [Sg.next, hX]; omega)]
        · rw [hdrop, List.drop_of_length_le (by rw [HN.out]; omega)]; rfl
      rw [h5] at h4
      simp only [Prod.mk.injEq] at h4
      exact ⟨h4.1, by omega⟩
    rw [hGD, hGN] at hRM
    rw [hX] at hCN
    obtain ⟨B, hB⟩ : ∃ B, l[k].1.base = B := ⟨_, rfl⟩
    obtain ⟨m, hm⟩ : ∃ m, l[k].1.es.length = m := ⟨_, rfl⟩
    rw [hB, hm] at hRM hCN
    rw [hB] at q0
    rw [hm] at q1
    have CN := Lib.hid hCN
    have CR := Lib.hid hRM
    have HIN2 := Lib.hid hin
    have hkI : (k : Int) < (n : Int) := by omega
    have hncI : (n : Int) ≤ (cap : Int) := by omega
    have hlbw : lb < wr.heap.size := (Dx.in HK.out.1 hin.rl).2
    have HCELL : Hid (∀ W0, Below wr.heap.size wr W0 → W0.cell? ⟨lb, 3, none⟩ = some (.slice (some ⟨g, o, none⟩) n cap) ∧ W0.cell? ⟨g, o + k * 2, none⟩ = some (.int .i64 (B : Nat)) ∧ W0.cell? ⟨g, o + k * 2 + 1, none⟩ = some (.slice A1 m c1)) := Lib.hid fun W0 hW => ⟨(hW.cell (p := ⟨lb, 3, none⟩) hlbw).trans c3, (hW.cell (p := ⟨g, o + k * 2, none⟩) hg).trans q0, (hW.cell (p := ⟨g, o + k * 2 + 1, none⟩) hg).trans q1⟩
    have HLI : Hid (∀ W0, Below wr.heap.size wr W0 → Dx Fr w db Dk W0 ∧ LogIn Fr base lb db p room false W0 (.slice (some ⟨g, o, none⟩) n cap) l) := Lib.hid fun W0 hW => ⟨Disk.Dx.below HK.out.1 hW, hin.keep (fun b hb => hW.block b (Dx.in HK.out.1 hb).2) hW.size⟩
    have HSO : Hid (∀ W0, Below wr.heap.size wr W0 → SameOn Fr W W0) := Lib.hid fun W0 hW => SameOn.trans HK.out.2.1 (Dx.sameOn HK.out.1 hW)
    clear hx hin hv1 hCN hRM hdrop hGD hGN hX hB hm f3
    by_cases hlt : k < n1
    · have hltd : decide ((k : Int) < (n1 : Int)) = true := decide_eq_true (by omega)
      go_wp2_with fail
      refine (CN.out _).mono ?_
      clear CN
      rintro e W3 ⟨rfl, hB3⟩
      by_cases hle : X ≤ a
      · have hled : decide ((X : Int) ≤ (a : Int)) = true := decide_eq_true (by omega)
        obtain ⟨e0, e1, e2⟩ := HSTEP.out (by omega) hle
        subst e0
        have HNX := Lib.hid (And.intro e1 e2)
        have HB3 := Lib.hid hB3
        obtain ⟨d0, d1, d2⟩ := HCELL.out _ HB3.out
        clear HEND HSTEP
        go_wp2_with fail
        refine (CR.out _ HB3.out).mono ?_
        rintro e W4 ⟨rfl, h3, h4⟩
        have HO := Lib.hid (And.intro h3 h4)
        clear CR h3 h4 d0 d1 d2
        go_wp2_with fail
        go_roundw
        case rel => exact ⟨k + 1, GD, by go_num, by omega, Lib.hid ⟨HO.out.1, HO.out.2, by have := HGM.out; have := HK.out.2.2.1; omega, HNX.out.1, HNX.out.2⟩⟩
        case measure => simp [intOf]; omega
      · have hled : decide ((X : Int) ≤ (a : Int)) = false := decide_eq_false (by omega)
        have HBX : Below wr.heap.size wr W3 := hB3
        obtain ⟨eD, eG⟩ := HEND.out (by omega)
        subst eD eG
        have HF := Lib.hid (HLI.out _ HBX)
        have HKO := Lib.hid (HSO.out _ HBX)
        obtain ⟨d0, _, _⟩ := HCELL.out _ HBX
        have hn0 : 0 < n := by omega
        clear HEND HSTEP HK HIN HIN2 HRM HNB HM1 CR HCELL HLI HGM
        by_cases hk0 : G = 0
        · subst hk0
          clear HCO
          go_wp2_with fail
          refine (cutNone_calls (some ⟨g, o, none⟩) n cap (by omega) HCAP.out _).mono ?_
          rintro e W5 ⟨rfl, hB5⟩
          have HF5 : Hid (Dx Fr w db Dk W5 ∧ LogIn Fr base lb db p room false W5 (.slice (some ⟨g, o, none⟩) n cap) l) := Lib.hid ⟨Disk.Dx.below HF.out.1 hB5, HF.out.2.keep (fun b hb => hB5.block b (HF.out.2.lt b hb)) hB5.size⟩
          obtain ⟨⟨_, _, _, c35, _⟩, f35⟩ := HF5.out.2.block.cells
          have f35' := f35 3
          have hlt5 : lb < W5.heap.size := HF5.out.2.lt lb HF5.out.2.rl
          have HG5 : Hid (Lg Fr w base lb db Dk p room false (.slice (some ⟨g, o, none⟩) n cap) (l.drop 0) (W5.setCell ⟨lb, 3, none⟩ (.slice (some ⟨g, o, none⟩) n cap))) := Lib.hid (Lg.row HF5.out.1 HF5.out.2.block hleB HF5.out.2.segs HF5.out.2.rl HF5.out.2.rv HF5.out.2.re)
          have HKF : Hid (KeptOn Fr lb (.slice (some ⟨g, o, none⟩) n cap) W (W5.setCell ⟨lb, 3, none⟩ (.slice (some ⟨g, o, none⟩) n cap))) := Lib.hid fun k hk h1 _ => (Below.heap_setCell _ _ _ k (fun e => h1 e)).trans ((hB5.block k (Dx.in HF.out.1 hk).2).trans (HKO.out.1 k hk))
          clear f35 hB5 HF5 HF
          go_wp2_with fail
          go_ret
          exact ⟨rfl, _, HG5.out, HKF.out⟩
        · obtain ⟨m2, hm2⟩ : ∃ m2, n - G = m2 := ⟨_, rfl⟩
          have CO := Lib.hid (HCO.out G m2 _ (by omega) (by omega) hm2 HF.out.2.segs)
          clear HCO
          go_wp2_with fail
          refine CO.out.mono ?_
          clear CO
          rintro e W5 ⟨rfl, hO5⟩
          have hgF : Fr g := HF.out.2.rv g rfl
          have hgl : g ≠ lb := fun e => HF.out.2.rowNot.1 (by rw [← e]; rfl)
          have hD5 := Dx.grown HF.out.1 hgF hO5.out.2
          have hL5 : LB W5 lb db p room (.slice (some ⟨g, o, none⟩) n cap) false := (hO5.out.2.block lb (HF.out.2.lt lb HF.out.2.rl) (fun e => hgl (by simp only [Option.some.injEq] at e; first | exact e | exact e.symm))).trans HF.out.2.block
          have HG5 : Hid (Lg Fr w base lb db Dk p room false (.slice (some ⟨g, o, none⟩) m2 cap) (l.drop G) (W5.setCell ⟨lb, 3, none⟩ (.slice (some ⟨g, o, none⟩) m2 cap))) := Lib.hid (Lg.row hD5 hL5 hleB hO5.out.1 HF.out.2.rl (fun b hb => by have hb' : some g = some b := hb; simp only [Option.some.injEq] at hb'; rw [← hb']; exact hgF) (fun q hq => HF.out.2.re q (List.mem_of_mem_drop hq)))
          obtain ⟨⟨_, _, _, c35, _⟩, f35⟩ := hL5.cells
          have f35' := f35 3
          have hlt5 : lb < W5.heap.size := hL5.lt
          have HKF : Hid (KeptOn Fr lb (.slice (some ⟨g, o, none⟩) n cap) W (W5.setCell ⟨lb, 3, none⟩ (.slice (some ⟨g, o, none⟩) m2 cap))) := Lib.hid fun k hk h1 h2 => (Below.heap_setCell _ _ _ k (fun e => h1 e)).trans ((hO5.out.2.block k (Dx.in HF.out.1 hk).2 (fun e => h2 e.symm)).trans (HKO.out.1 k hk))
          clear f35 hO5 hgF hgl hD5 hL5 HF hm2
          go_wp2_with fail
          go_ret
          exact ⟨rfl, _, HG5.out, HKF.out⟩
    · have hltd : decide ((k : Int) < (n1 : Int)) = false := decide_eq_false (by omega)
      have HBX : Below wr.heap.size wr wr := Below.refl _ _
      clear CN
      obtain ⟨eD, eG⟩ := HEND.out (by omega)
      subst eD eG
      have HF := Lib.hid (HLI.out _ HBX)
      have HKO := Lib.hid (HSO.out _ HBX)
      obtain ⟨d0, _, _⟩ := HCELL.out _ HBX
      have hn0 : 0 < n := by omega
      clear HEND HSTEP HK HIN HIN2 HRM HNB HM1 CR HCELL HLI HGM
      by_cases hk0 : G = 0
      · subst hk0
        clear HCO
        go_wp2_with fail
        refine (cutNone_calls (some ⟨g, o, none⟩) n cap (by omega) HCAP.out _).mono ?_
        rintro e W5 ⟨rfl, hB5⟩
        have HF5 : Hid (Dx Fr w db Dk W5 ∧ LogIn Fr base lb db p room false W5 (.slice (some ⟨g, o, none⟩) n cap) l) := Lib.hid ⟨Disk.Dx.below HF.out.1 hB5, HF.out.2.keep (fun b hb => hB5.block b (HF.out.2.lt b hb)) hB5.size⟩
        obtain ⟨⟨_, _, _, c35, _⟩, f35⟩ := HF5.out.2.block.cells
        have f35' := f35 3
        have hlt5 : lb < W5.heap.size := HF5.out.2.lt lb HF5.out.2.rl
        have HG5 : Hid (Lg Fr w base lb db Dk p room false (.slice (some ⟨g, o, none⟩) n cap) (l.drop 0) (W5.setCell ⟨lb, 3, none⟩ (.slice (some ⟨g, o, none⟩) n cap))) := Lib.hid (Lg.row HF5.out.1 HF5.out.2.block hleB HF5.out.2.segs HF5.out.2.rl HF5.out.2.rv HF5.out.2.re)
        have HKF : Hid (KeptOn Fr lb (.slice (some ⟨g, o, none⟩) n cap) W (W5.setCell ⟨lb, 3, none⟩ (.slice (some ⟨g, o, none⟩) n cap))) := Lib.hid fun k hk h1 _ => (Below.heap_setCell _ _ _ k (fun e => h1 e)).trans ((hB5.block k (Dx.in HF.out.1 hk).2).trans (HKO.out.1 k hk))
        clear f35 hB5 HF5 HF
        go_wp2_with fail
        go_ret
        exact ⟨rfl, _, HG5.out, HKF.out⟩
      · obtain ⟨m2, hm2⟩ : ∃ m2, n - G = m2 := ⟨_, rfl⟩
        have CO := Lib.hid (HCO.out G m2 _ (by omega) (by omega) hm2 HF.out.2.segs)
        clear HCO
        go_wp2_with fail
        refine CO.out.mono ?_
        clear CO
        rintro e W5 ⟨rfl, hO5⟩
        have hgF : Fr g := HF.out.2.rv g rfl
        have hgl : g ≠ lb := fun e => HF.out.2.rowNot.1 (by rw [← e]; rfl)
        have hD5 := Dx.grown HF.out.1 hgF hO5.out.2
        have hL5 : LB W5 lb db p room (.slice (some ⟨g, o, none⟩) n cap) false := (hO5.out.2.block lb (HF.out.2.lt lb HF.out.2.rl) (fun e => hgl (by simp only [Option.some.injEq] at e; first | exact e | exact e.symm))).trans HF.out.2.block
        have HG5 : Hid (Lg Fr w base lb db Dk p room false (.slice (some ⟨g, o, none⟩) m2 cap) (l.drop G) (W5.setCell ⟨lb, 3, none⟩ (.slice (some ⟨g, o, none⟩) m2 cap))) := Lib.hid (Lg.row hD5 hL5 hleB hO5.out.1 HF.out.2.rl (fun b hb => by have hb' : some g = some b := hb; simp only [Option.some.injEq] at hb'; rw [← hb']; exact hgF) (fun q hq => HF.out.2.re q (List.mem_of_mem_drop hq)))
        obtain ⟨⟨_, _, _, c35, _⟩, f35⟩ := hL5.cells
        have f35' := f35 3
        have hlt5 : lb < W5.heap.size := hL5.lt
        have HKF : Hid (KeptOn Fr lb (.slice (some ⟨g, o, none⟩) n cap) W (W5.setCell ⟨lb, 3, none⟩ (.slice (some ⟨g, o, none⟩) m2 cap))) := Lib.hid fun k hk h1 h2 => (Below.heap_setCell _ _ _ k (fun e => h1 e)).trans ((hO5.out.2.block k (Dx.in HF.out.1 hk).2 (fun e => h2 e.symm)).trans (HKO.out.1 k hk))
        clear f35 hO5 hgF hgl hD5 hL5 HF hm2
        go_wp2_with fail
        go_ret
        exact ⟨rfl, _, HG5.out, HKF.out⟩

set_option maxRecDepth 100000 in
set_option maxHeartbeats 1000000 in
theorem cutHeadL_calls {Fr : Nat → Prop} {w W : World} {base db lb room : Nat} {D D1 DF : DS} {p : ByteArray} {v : Value} {l : List SV} (h : Lg Fr w base lb db D p room false v l W) (hp : p.size ≤ 13) (hmade : D.made + l.length ≤ 4294967296)
    (hbs : ∀ q ∈ l, q.1.base ≤ 4611686018427387904) (hb : ∀ q ∈ l, q.1.next ≤ 9223372036854775807) (hl : l.length ≤ 4294967296) (hl0 : 0 < l.length) (hcap : ∀ A n c, v = .slice A n c → c ≤ 9223372036854775807) (htab : Tab10 w) (a : Nat)
    (h1 : firstL (l.map (·.1)) ≤ a) (h2 : a ≤ nextL (l.map (·.1))) (hD1 : allD D (filesL p l) = D1) (h0 : allN D (filesL p l) = 0) (G : Nat) (hgo : headGo p a D1 l = (DF, 0, G)) :
    Calls Tryz.prog 25 #[.pointer (some ⟨lb, 0, none⟩), .int .i64 (a : Nat)] W (HeadCut Fr w W base lb db DF p room v (l.drop G) 0) := by
  have C0 := refusal_calls h.2 hl hb (a : Int)
  have hr : refusalN false (l.map (·.1)) (a : Int) = 0 := by
    unfold refusalN
    rw [if_neg (by simp), if_neg (by omega)]
  rw [hr] at C0
  have C1 : Hid (∀ W0, Below W.heap.size W W0 → Calls Tryz.prog 52 #[.pointer (some ⟨lb, 0, none⟩), .int .i64 (a : Nat)] W0 (HeadCut Fr w W0 base lb db DF p room v (l.drop G) 0)) := Lib.hid fun W0 hW =>
    cutHead_calls (W := W0) ⟨Disk.Dx.below h.1 hW, h.2.keep (fun b hb => hW.block b (h.2.lt b hb)) hW.size⟩ hp hmade hbs hb hl hl0 hcap htab a hD1 h0 G hgo
  have HBK : Hid (∀ W1 k, Below W.heap.size W W1 → Fr k → W1.heap[k]? = W.heap[k]?) := Lib.hid fun W1 k hB hk => hB.block k (Dx.in h.1 hk).2
  have C0 := Lib.hid C0
  clear h hp hmade hbs hb hl hl0 hcap htab h1 h2 hD1 h0 hgo hr
  go_enter Tryz.func25, Tryz.ntmps25
  go_wp2_with fail
  refine C0.out.mono ?_
  clear C0
  rintro e W1 ⟨rfl, hB1⟩
  go_wp2_with fail
  have HB1 := Lib.hid hB1
  refine (C1.out _ hB1).mono ?_
  clear C1 hB1
  rintro e W2 ⟨rfl, v2, hG2, hK2⟩
  have HG2 := Lib.hid hG2
  have HK2 : Hid (KeptOn Fr lb v W (W2.setCell ⟨lb, 4, none⟩ (.bool ((0 : Nat) != 0)))) := Lib.hid fun k hk h1 h2 => (Below.heap_setCell _ _ _ k (fun e => h1 e)).trans ((hK2 k hk h1 h2).trans (HBK.out _ k HB1.out hk))
  clear hG2 hK2
  go_wp2_with fail
  refine (breaks_calls lb db room 0 p v2 false W2 HG2.out.2.block).mono ?_
  rintro e W3 ⟨rfl, rfl⟩
  have HF := Lib.hid (HG2.out.broke ((0 : Nat) != 0))
  clear HG2
  go_wp2_with fail
  go_ret
  exact ⟨rfl, v2, HF.out, HK2.out⟩

end Go.Proofs.YtnhkpemajknfnaaGreatDoor.Seglog

/-
  Contract of the log's growing: an empty log; a last segment that has room.
-/
namespace Go.Proofs.YtnhkpemajknfnaaGreatDoor.Seglog
open Go Go.RowKit Go.Lib Go.Sort Go.Proofs.YtnhkpemajknfnaaGreatDoor.Law Go.Proofs.YtnhkpemajknfnaaGreatDoor.Disk

set_option maxRecDepth 100000 in
set_option maxHeartbeats 2000000 in
theorem growing_none {base lb db room : Nat} {p : ByteArray} {bk : Bool} {W : World} {v : Value} (h : LB W lb db p room v bk) (hs : SegsAt W base v []) :
    Calls Tryz.prog 43 #[.pointer (some ⟨lb, 0, none⟩)] W fun e W' => e = .returned (.tuple #[.int .i64 0, segV 0 none 0 0, .int .i64 0]) ∧ Below W.heap.size W W' := by
  obtain ⟨⟨_, _, _, c3, _⟩, _⟩ := h.cells
  obtain ⟨A, cap, rfl⟩ := rowForm hs.1
  rw [show ([] : List SV).length = 0 from rfl] at c3
  have hlt := h.lt
  obtain ⟨q, hq⟩ : ∃ q, W.heap.size = q := ⟨_, rfl⟩
  have hZ : (W.alloc (.cells #[.int .i64 0, .slice none 0 0] 84)).heap[q]? = some (.cells #[.int .i64 0, .slice none 0 0] 84 (0, 0)) := by rw [← hq]; exact heap_alloc_new W _
  have HB := Lib.hid ((Below.refl W.heap.size W).alloc (Nat.le_refl _) (.cells #[.int .i64 0, .slice none 0 0] 84))
  have HZ := Lib.hid hZ
  clear h hs hq hZ
  go_enter Tryz.func43, Tryz.ntmps43
  go_wp2_with fail
  refine bodyPost_ret (v := .tuple #[.int .i64 0, segV 0 none 0 0, .int .i64 0]) (by simp [results, Tryz.results43, go_sem]) rfl ?_
  refine ⟨rfl, ?_⟩
  first | exact HB.out | exact (HB.out.setCell (Nat.le_refl _) _).setCell (Nat.le_refl _) _

set_option maxRecDepth 100000 in
set_option maxHeartbeats 4000000 in
theorem growing_last {R : Nat → Prop} {base lb db room : Nat} {p : ByteArray} {bk : Bool} {W : World} {v : Value} {l : List SV} (h : LogIn R base lb db p room bk W v l) (hl : l.length ≤ 4294967296) (k : Nat) (x : SV) (hk : l.length = k + 1) (hx : l[k]? = some x)
    (hn : x.1.next ≤ 9223372036854775807) (hm : x.1.es.length ≤ 4294967296) (_hr : room ≤ 1048576) (hroom : x.1.size < room ∨ 4611686018427387904 < x.1.next) :
    Calls Tryz.prog 43 #[.pointer (some ⟨lb, 0, none⟩)] W fun e W' => ∃ A c, x.2 = .slice A x.1.es.length c ∧ e = .returned (.tuple #[.int .i64 (k : Nat), segV x.1.base A x.1.es.length c, .int .i64 0]) ∧ Below W.heap.size W W' := by
  obtain ⟨⟨_, _, c2, c3, _⟩, _⟩ := h.block.cells
  have hlb := h.block.lt
  obtain ⟨vA, cap, rfl⟩ := rowForm h.segs.1
  have hkl : k < l.length := by omega
  obtain ⟨hnc, g, o, rfl, hg, q0, q1⟩ := h.segs.cell (i := k) rfl hkl
  have hxi : l[k] = x := (List.getElem?_eq_some_iff.1 hx).2
  rw [hxi] at q0 q1
  have hes := h.segs.2 x (List.mem_of_getElem? hx)
  obtain ⟨A, c, hv⟩ := rowForm hes
  rw [hv] at q1 hes
  rw [hk] at c3 hnc
  obtain ⟨B, hB⟩ : ∃ B, x.1.base = B := ⟨_, rfl⟩
  obtain ⟨m, hm'⟩ : ∃ m, x.1.es.length = m := ⟨_, rfl⟩
  obtain ⟨S, hS⟩ : ∃ S, x.1.size = S := ⟨_, rfl⟩
  obtain ⟨X, hX⟩ : ∃ X, x.1.next = X := ⟨_, rfl⟩
  have hXe : B + m = X := by rw [← hX, ← hB, ← hm']; rfl
  have CZ : Hid (∀ W0, Below W.heap.size W W0 → Calls Tryz.prog 45 #[segV B A m c] W0 fun e W' => e = .returned (.int .i64 (S : Nat)) ∧ Below W0.heap.size W0 W') := Lib.hid fun W0 h0 => by
    have h1 := size_calls x.1.base A m c base x.1.es W0 hm' (by rw [← hm']; exact hes.below h0) (by omega)
    rw [show (⟨x.1.base, x.1.es⟩ : Sg).size = S from hS, hB] at h1
    exact h1
  have CN : Hid (∀ W0, Calls Tryz.prog 38 #[segV B A m c] W0 fun e W' => e = .returned (.int .i64 (X : Nat)) ∧ Below W0.heap.size W0 W') := Lib.hid fun W0 => by
    have h1 := next_calls B A m c (by omega) W0
    rwa [hXe] at h1
  have w1 : IntKind.i64.wrap (((k + 1 : Nat) : Int) - 1) = (k : Int) := by rw [IntWalk.i64_in _ (by omega)]; omega
  obtain ⟨k1, hk1⟩ : ∃ j, k + 1 = j := ⟨_, rfl⟩
  rw [hk1] at c3 hnc w1
  have hkI : (k : Int) < (k1 : Int) := by omega
  have hk0 : 0 ≤ (k : Int) := by omega
  have hne : ¬ (k1 : Int) = 0 := by omega
  have hncI : (k1 : Int) ≤ (cap : Int) := by omega
  rw [hB, hm', hv, hm']
  rw [hS, hX] at hroom
  rw [hB] at q0
  rw [hm'] at q1
  have HB0 := Lib.hid (((Below.refl W.heap.size W).alloc (Nat.le_refl _) (.cells #[.int .i64 0, .slice none 0 0] 84)).alloc (by simp) (.cells #[.int .i64 (B : Nat), .slice A m c] 84))
  obtain ⟨q, hq⟩ : ∃ q, W.heap.size = q := ⟨_, rfl⟩
  have HX0 : Hid (((W.alloc (.cells #[.int .i64 0, .slice none 0 0] 84)).alloc (.cells #[.int .i64 (B : Nat), .slice A m c] 84)).heap[q]? = some (.cells #[.int .i64 0, .slice none 0 0] 84 (0, 0)) ∧ ((W.alloc (.cells #[.int .i64 0, .slice none 0 0] 84)).alloc (.cells #[.int .i64 (B : Nat), .slice A m c] 84)).heap[q + 1]? = some (.cells #[.int .i64 (B : Nat), .slice A m c] 84 (0, 0))) := Lib.hid ⟨by rw [← hq]; exact (Below.heap_alloc (W.alloc _) _ _ (by simp)).trans (heap_alloc_new W _), by have := heap_alloc_new (W.alloc (.cells #[.int .i64 0, .slice none 0 0] 84)) (.cells #[.int .i64 (B : Nat), .slice A m c] 84); rwa [World.size_alloc, hq] at this⟩
  have HQ := Lib.hid hq
  clear h hl hk hx hn hm _hr hkl hxi hes hv hB hm' hS hX hXe hk1 hq
  go_enter Tryz.func43, Tryz.ntmps43
  go_wp2_with fail
  have hB0 := HB0.out
  have hX0 := HX0.out
  clear HB0 HX0
  generalize (W.alloc (.cells #[.int .i64 0, .slice none 0 0] 84)).alloc (.cells #[.int .i64 (B : Nat), .slice A m c] 84) = w0 at hB0 hX0 ⊢
  rw [HQ.out]
  have r2 := (hB0.cell (p := ⟨lb, 2, none⟩) hlb).trans c2
  obtain ⟨x0, x1, _, _⟩ := two2 hX0.2
  have CZ2 := Lib.hid fun d os => Calls.regrown_of (d := d) (os := os) (CZ.out (grow (redrawn w0 d) os) (hB0.trans ((below_regrown w0 d os).mono hB0.size)))
  have CN2 := Lib.hid fun d os => Calls.regrown_of (d := d) (os := os) (CN.out (grow (redrawn w0 d) os))
  have g2 := fun d os => cell_regrown r2 d os
  have y0 := fun d os => cell_regrown x0 d os
  have y1 := fun d os => cell_regrown x1 d os
  have HB0 := Lib.hid hB0
  have HX0 := Lib.hid hX0
  clear hB0 hX0 r2 x0 x1 CZ CN c2 c3 q0 q1 hg hlb
  by_cases hsz : S < room
  · have d1 : decide ((S : Int) < (room : Int)) = true := decide_eq_true (by omega)
    clear hroom
    refine wp_region_quiet_below (by kernel_rfl) (by kernel_rfl) ?_
    repeat (go_big_quiet_step ((first | exact CZ2.out _ _ | exact CN2.out _ _)))
    refine wpQuiet_nil ?_
    intro w' hw'
    obtain ⟨⟨d, os⟩, rfl⟩ := hw'
    have hbr := below_regrown w0 d os
    have HB3 := Lib.hid (HB0.out.trans (hbr.mono HB0.out.size))
    have HX3 : Hid ((grow (redrawn w0 d) os).heap[q]? = some (.cells #[.int .i64 0, .slice none 0 0] 84 (0, 0)) ∧ (grow (redrawn w0 d) os).heap[q + 1]? = some (.cells #[.int .i64 (B : Nat), .slice A m c] 84 (0, 0))) := Lib.hid ⟨(hbr.block q (Array.getElem?_eq_some_iff.1 HX0.out.1).1).trans HX0.out.1, (hbr.block (q + 1) (Array.getElem?_eq_some_iff.1 HX0.out.2).1).trans HX0.out.2⟩
    clear CZ2 CN2 g2 y0 y1 hbr HX0 HB0
    generalize grow (redrawn w0 d) os = w3 at HB3 HX3 ⊢
    obtain ⟨z0, z1, z2, z3⟩ := two2 HX3.out.1
    obtain ⟨x0, x1, _, _⟩ := two2 HX3.out.2
    have hl3 : q < w3.heap.size := (Array.getElem?_eq_some_iff.1 HX3.out.1).1
    go_wp2_with fail
    go_region
    all_goals
      have hf2 : ((w3.setCell ⟨q, 0, none⟩ (.int .i64 (B : Nat))).setCell ⟨q, 1, none⟩ (.slice A m c)).drew.heap[q]? = some (.cells #[.int .i64 (B : Nat), .slice A m c] 84 (0, 0)) := heap_set (heap_set HX3.out.1 0 _) 1 _
      have hBf : Below W.heap.size W ((w3.setCell ⟨q, 0, none⟩ (.int .i64 (B : Nat))).setCell ⟨q, 1, none⟩ (.slice A m c)).drew := ((HB3.out.setCell (by rw [HQ.out]; exact Nat.le_refl _) _).setCell (by rw [HQ.out]; exact Nat.le_refl _) _).drew
      generalize ((w3.setCell ⟨q, 0, none⟩ (.int .i64 (B : Nat))).setCell ⟨q, 1, none⟩ (.slice A m c)).drew = wf at hf2 hBf ⊢
      obtain ⟨f0, f1, _, _⟩ := two2 hf2
      have HBF := Lib.hid hBf
      clear hf2 hBf x0 x1 z0 z1 z2 z3 hl3 HX3 HB3
      go_wp2_with fail
      refine bodyPost_ret (v := .tuple #[.int .i64 (k : Nat), segV B A m c, .int .i64 0]) (by simp [results, Tryz.results43, go_sem, f0, f1]) rfl ?_
      exact ⟨A, c, rfl, rfl, HBF.out⟩
  · have d1 : decide ((S : Int) < (room : Int)) = false := decide_eq_false (by omega)
    have d2 : decide ((4611686018427387904 : Int) < (X : Int)) = true := decide_eq_true (by omega)
    clear hroom
    refine wp_region_quiet_below (by kernel_rfl) (by kernel_rfl) ?_
    repeat (go_big_quiet_step ((first | exact CZ2.out _ _ | exact CN2.out _ _)))
    refine wpQuiet_nil ?_
    intro w' hw'
    obtain ⟨⟨d, os⟩, rfl⟩ := hw'
    have hbr := below_regrown w0 d os
    have HB3 := Lib.hid (HB0.out.trans (hbr.mono HB0.out.size))
    have HX3 : Hid ((grow (redrawn w0 d) os).heap[q]? = some (.cells #[.int .i64 0, .slice none 0 0] 84 (0, 0)) ∧ (grow (redrawn w0 d) os).heap[q + 1]? = some (.cells #[.int .i64 (B : Nat), .slice A m c] 84 (0, 0))) := Lib.hid ⟨(hbr.block q (Array.getElem?_eq_some_iff.1 HX0.out.1).1).trans HX0.out.1, (hbr.block (q + 1) (Array.getElem?_eq_some_iff.1 HX0.out.2).1).trans HX0.out.2⟩
    clear CZ2 CN2 g2 y0 y1 hbr HX0 HB0
    generalize grow (redrawn w0 d) os = w3 at HB3 HX3 ⊢
    obtain ⟨z0, z1, z2, z3⟩ := two2 HX3.out.1
    obtain ⟨x0, x1, _, _⟩ := two2 HX3.out.2
    have hl3 : q < w3.heap.size := (Array.getElem?_eq_some_iff.1 HX3.out.1).1
    go_wp2_with fail
    go_region
    all_goals
      have hf2 : ((w3.setCell ⟨q, 0, none⟩ (.int .i64 (B : Nat))).setCell ⟨q, 1, none⟩ (.slice A m c)).drew.heap[q]? = some (.cells #[.int .i64 (B : Nat), .slice A m c] 84 (0, 0)) := heap_set (heap_set HX3.out.1 0 _) 1 _
      have hBf : Below W.heap.size W ((w3.setCell ⟨q, 0, none⟩ (.int .i64 (B : Nat))).setCell ⟨q, 1, none⟩ (.slice A m c)).drew := ((HB3.out.setCell (by rw [HQ.out]; exact Nat.le_refl _) _).setCell (by rw [HQ.out]; exact Nat.le_refl _) _).drew
      generalize ((w3.setCell ⟨q, 0, none⟩ (.int .i64 (B : Nat))).setCell ⟨q, 1, none⟩ (.slice A m c)).drew = wf at hf2 hBf ⊢
      obtain ⟨f0, f1, _, _⟩ := two2 hf2
      have HBF := Lib.hid hBf
      clear hf2 hBf x0 x1 z0 z1 z2 z3 hl3 HX3 HB3
      go_wp2_with fail
      refine bodyPost_ret (v := .tuple #[.int .i64 (k : Nat), segV B A m c, .int .i64 0]) (by simp [results, Tryz.results43, go_sem, f0, f1]) rfl ?_
      exact ⟨A, c, rfl, rfl, HBF.out⟩

end Go.Proofs.YtnhkpemajknfnaaGreatDoor.Seglog
