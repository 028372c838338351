/-
  Put together out of texts of one chain: what they hold stands ahead of each.
-/
import Derived.Test.YtnjjjalenhbicaaGDiskStands14
import Derived.LoopTactic
import Derived.Shelf.SlSortCmp.NoneTotal
/-
  Contracts of the disk's Read, Durable, Pending, Used, Fail, Limit.
-/
namespace Go.Proofs.Ytnjjjalenhbicaa.Disk
open Go Go.RowKit Go.Lib Go.Proofs.Ytnjjjalenhbicaa.Law

/-- What Read and Durable leave: bytes of the call's own. -/
def ReadD (w : World) (o : Option (List Nat)) (e : Ending) (W : World) : Prop := ∃ v, e = .returned (.tuple #[v, .bool o.isSome]) ∧ OwnB W w.heap.size 5 v (o.getD []) ∧ Below w.heap.size w W

theorem readD_of {w W W2 : World} {o : Option (List Nat)} {e : Ending} (hB : Below w.heap.size w W) (h : ReadOut W o.isSome (o.getD []) e W2) : ReadD w o e W2 := by
  obtain ⟨v, he, hO, hB2⟩ := h
  exact ⟨v, he, ownB_low hO hB.size, hB.trans (hB2.mono hB.size)⟩

set_option maxRecDepth 100000 in
set_option maxHeartbeats 2000000 in
theorem readD_calls (w : World) (O : Owner) (db : Nat) (D : DS) (h : DiskAt w O db D) (hw : WF D) (s : ByteArray) (hs : Short s) :
    Calls Try.prog 14 #[.pointer (some ⟨db, 0, none⟩), .string s] w (ReadD w (D.now s)) := by
  obtain ⟨v, ns, sl, cl, nt, st, ⟨h1, h2, h3, h4⟩, hb, hb2, hc⟩ := known_at h hw s hs
  obtain ⟨sh, na, nc, sa, sc, ca, cc⟩ := v
  have CK : Hid (Calls Try.prog 40 #[.pointer (some ⟨db, 0, none⟩), .string s] w (KnownOut w (.agg #[.bool nt, .slice na ns nc, .bool st, .slice sa sl sc, .bool sh, .slice ca cl cc]))) := Lib.hid hc
  have CR : Hid (∀ W, Below w.heap.size w W → Calls Try.prog 41 #[.agg #[.bool nt, .slice na ns nc]] W fun e W2 => ∃ A n c, e = .returned (.tuple #[.slice A n c, .bool nt]) ∧ Hid (ReadD w (D.now s) e W2)) := Lib.hid fun W hB => by
    have hl := hw.nowLe s
    have e := read_calls nt (.slice na ns nc) ((D.now s).getD []) (by rw [szO_getD]; omega) W (Buf.bytes (hb.below hB))
    refine e.mono ?_
    intro e W2 hr
    obtain ⟨v', rfl, hO, _⟩ := id hr
    obtain ⟨A, c, rfl⟩ := hO.bytes.form
    refine ⟨A, _, c, rfl, Lib.hid ?_⟩
    rw [h1] at hr ⊢
    exact readD_of hB hr
  have q0 := field_now nt st sh na sa ca ns nc sl sc cl cc
  clear hc hb hb2 h hw h1 h2 h3 h4
  go_enter Try.func14, Try.ntmps14
  go_wp2_with fail
  refine CK.out.mono ?_
  rintro e W ⟨rfl, hB⟩
  have cR := CR.out W hB
  have CRR := Lib.hid cR
  clear cR hB
  go_wp2_with fail
  refine CRR.out.mono ?_
  rintro e W2 ⟨A, n, c, rfl, HR⟩
  go_wp2_with fail
  go_ret2
  exact HR.out

set_option maxRecDepth 100000 in
set_option maxHeartbeats 2000000 in
theorem durableD_calls (w : World) (O : Owner) (db : Nat) (D : DS) (h : DiskAt w O db D) (hw : WF D) (s : ByteArray) (hs : Short s) :
    Calls Try.prog 16 #[.pointer (some ⟨db, 0, none⟩), .string s] w (ReadD w (D.safe s)) := by
  obtain ⟨v, ns, sl, cl, nt, st, ⟨h1, h2, h3, h4⟩, hb, hb2, hc⟩ := known_at h hw s hs
  obtain ⟨sh, na, nc, sa, sc, ca, cc⟩ := v
  have CK : Hid (Calls Try.prog 40 #[.pointer (some ⟨db, 0, none⟩), .string s] w (KnownOut w (.agg #[.bool nt, .slice na ns nc, .bool st, .slice sa sl sc, .bool sh, .slice ca cl cc]))) := Lib.hid hc
  have CR : Hid (∀ W, Below w.heap.size w W → Calls Try.prog 41 #[.agg #[.bool st, .slice sa sl sc]] W fun e W2 => ∃ A n c, e = .returned (.tuple #[.slice A n c, .bool st]) ∧ Hid (ReadD w (D.safe s) e W2)) := Lib.hid fun W hB => by
    have hl := hw.safeLe s
    have e := read_calls st (.slice sa sl sc) ((D.safe s).getD []) (by rw [szO_getD]; omega) W (Buf.bytes (hb2.below hB))
    refine e.mono ?_
    intro e W2 hr
    obtain ⟨v', rfl, hO, _⟩ := id hr
    obtain ⟨A, c, rfl⟩ := hO.bytes.form
    refine ⟨A, _, c, rfl, Lib.hid ?_⟩
    rw [h3] at hr ⊢
    exact readD_of hB hr
  have q0 := field_safe nt st sh na sa ca ns nc sl sc cl cc
  clear hc hb hb2 h hw h1 h2 h3 h4
  go_enter Try.func16, Try.ntmps16
  go_wp2_with fail
  refine CK.out.mono ?_
  rintro e W ⟨rfl, hB⟩
  have cR := CR.out W hB
  have CRR := Lib.hid cR
  clear cR hB
  go_wp2_with fail
  refine CRR.out.mono ?_
  rintro e W2 ⟨A, n, c, rfl, HR⟩
  go_wp2_with fail
  go_ret2
  exact HR.out

/-- How many changes the names to come have. -/
def chCount (names : List ByteArray) (l : List (ByteArray × Chg)) : Nat := (names.map fun s => (mine s l).length).sum
theorem count_perm (l : List (ByteArray × Chg)) {a b : List ByteArray} (h : a.Perm b) : chCount a l = chCount b l := by
  unfold chCount; exact (h.map _).sum_nat
theorem mine_cons (s : ByteArray) (x : ByteArray × Chg) (l : List (ByteArray × Chg)) : mine s (x :: l) = (if x.1 = s then [x.2] else []) ++ mine s l := by
  unfold mine
  by_cases h : x.1 = s
  · rw [List.filter_cons_of_pos (by simpa using h)]; simp [h]
  · rw [List.filter_cons_of_neg (by simpa using h)]; simp [h]
theorem count_cons_out (x : ByteArray × Chg) (l : List (ByteArray × Chg)) : ∀ names : List ByteArray, x.1 ∉ names → chCount names (x :: l) = chCount names l
  | [], _ => rfl
  | a :: r, h => by
    have h1 : x.1 ≠ a := fun e => h (by simp [e])
    have := count_cons_out x l r (fun e => h (List.mem_cons_of_mem _ e))
    unfold chCount at this ⊢
    rw [List.map_cons, List.map_cons, List.sum_cons, List.sum_cons, this, mine_cons, if_neg h1]
    simp
theorem count_cons_in (x : ByteArray × Chg) (l : List (ByteArray × Chg)) : ∀ names : List ByteArray, names.Nodup → x.1 ∈ names → chCount names (x :: l) = chCount names l + 1
  | [], _, h => by simp at h
  | a :: r, hn, h => by
    rw [List.nodup_cons] at hn
    by_cases ha : x.1 = a
    · have := count_cons_out x l r (by rw [ha]; exact hn.1)
      unfold chCount at this ⊢
      rw [List.map_cons, List.map_cons, List.sum_cons, List.sum_cons, this, mine_cons, if_pos ha]
      simp; omega
    · have h2 : x.1 ∈ r := by
        rcases List.mem_cons.1 h with e | e
        · exact absurd e ha
        · exact e
      have := count_cons_in x l r hn.2 h2
      unfold chCount at this ⊢
      rw [List.map_cons, List.map_cons, List.sum_cons, List.sum_cons, this, mine_cons, if_neg ha]
      simp; omega
theorem count_all (names : List ByteArray) (hn : names.Nodup) : ∀ l : List (ByteArray × Chg), (∀ x ∈ l, x.1 ∈ names) → chCount names l = l.length
  | [], _ => by
    unfold chCount
    have : (names.map fun s => (mine s ([] : List (ByteArray × Chg))).length) = names.map fun _ => 0 := rfl
    rw [this]
    clear this hn
    induction names with
    | nil => rfl
    | cons a r ih => simpa using ih
  | x :: l, h => by
    rw [count_cons_in x l names hn (h x (by simp)), count_all names hn l (fun y hy => h y (List.mem_cons_of_mem _ hy))]; rfl
theorem WF.countAll {D : DS} (h : WF D) : chCount D.names D.chs = D.chs.length := count_all _ h.nodup _ fun x hx => (h.names x.1).2 (.inr (.inr ⟨x.2, hx⟩))

end Go.Proofs.Ytnjjjalenhbicaa.Disk

/-
  Contract of the disk's Pending.
-/
namespace Go.Proofs.Ytnjjjalenhbicaa.Disk
open Go Go.RowKit Go.Lib Go.Proofs.Ytnjjjalenhbicaa.Law

/-- Where a name's file lies. -/
theorem DiskAt.files {W : World} {O : Owner} {db : Nat} {D : DS} {F : ByteArray → Option Nat} (h : ∀ s ∈ D.names, ∃ fb, F s = some fb ∧ FileAt W O (db + 1) s fb (D.now s) (D.safe s) (mine s D.chs)) {s : ByteArray} (hs : s ∈ D.names) {g : Nat} (hF : F s = some g) :
    ∃ v : KV, FileV W O (db + 1) s g (D.now s) (D.safe s) (mine s D.chs) v := by
  obtain ⟨fb, h1, h2⟩ := h s hs
  rw [hF] at h1
  obtain rfl := Option.some.inj h1
  exact h2.vals

theorem chCount_erase (l : List (ByteArray × Chg)) {names : List ByteArray} {s : ByteArray} (hs : s ∈ names) : chCount names l = (mine s l).length + chCount (names.erase s) l := by
  rw [count_perm l (List.perm_cons_erase hs)]
  unfold chCount
  rw [List.map_cons, List.sum_cons]

set_option maxRecDepth 100000 in
set_option maxHeartbeats 2000000 in
theorem pending_calls (w : World) (O : Owner) (db : Nat) (D : DS) (h : DiskAt w O db D) (hw : WF D) (hmade : D.made ≤ 4294967296) :
    Calls Try.prog 28 #[.pointer (some ⟨db, 0, none⟩)] w fun e W => e = .returned (.int .i64 (D.chs.length : Nat)) ∧ Below w.heap.size w W := by
  obtain ⟨mb, F, hc, hf⟩ := id h
  obtain ⟨n, hn, hm⟩ := hc.map
  have hdb := hc.disk.lt
  have hmbl := hm.lt
  obtain ⟨w', cnt, hrun, hR, hG, hS⟩ := hm.rng Try.underlying9 Try.underlying62 D.names hw.nodup (fun s hs => hw.short hs) hc.dom
  have hcount := hw.countAll
  have hlen := hw.len
  obtain ⟨⟨d0, _⟩, _⟩ := hc.disk.cells
  have HF : Hid (∀ s ∈ D.names, ∀ g, F s = some g → g < w.heap.size ∧ ∃ A c, w.cell? ⟨g, 5, none⟩ = some (.slice A (mine s D.chs).length c)) := Lib.hid fun s hs g hg => by
    obtain ⟨v, hv⟩ := DiskAt.files hf hs hg
    exact ⟨hv.1.lt, _, _, hv.1.cells.1.2.2.2.2.2⟩
  obtain ⟨m, hm2⟩ : ∃ m, D.chs.length = m := ⟨_, rfl⟩
  rw [hm2] at hcount hlen ⊢
  have HRUN := Lib.hid hrun
  have HR := Lib.hid hR
  have hB0 : Below w.heap.size w w' := ⟨hG.os, hG.tape, hG.output, hG.size, fun k hk => hG.block k hk (by simp)⟩
  have HB0 := Lib.hid hB0
  have HCO := Lib.hid hcount
  have HWN := Lib.hid hw.nodup
  clear h hw hc hf hm hrun hR hG hB0 hcount
  go_enter Try.func28, Try.ntmps28
  go_wp2_with (first | (at_range; refine wpList_range_ran rfl _ _ rfl rfl HRUN.out ?_))
  go_frame
  go_loopw [3] (fun i wr => ∃ (k : Nat) (rest : List ByteArray) (c : Nat), i = .int .i64 k ∧ (∀ s ∈ rest, s ∈ D.names) ∧ Rng Try.prog 9 wr mb w.heap.size n F rest c ∧ Hid (k + chCount rest D.chs = m) ∧ Hid (Below w.heap.size w wr)) (fun _ wr => wr.rangeLeft mb w.heap.size)
  case atStart => exact ⟨0, D.names, cnt, rfl, fun _ h => h, HR.out, Lib.hid (by have := HCO.out; omega), HB0⟩
  case round =>
    obtain ⟨k, rest, c, rfl, hsub, hrng, HK, HB⟩ := hrel
    have hleft := hrng.left
    rcases hrng.next Try.underlying9 0 with ⟨rfl, hnx⟩ | ⟨s, g, w1, c1, hs, hF, hnx, hrng1, hlt, hg1, hs1, hen⟩
    · have HNX := Lib.hid hnx
      have hk : k = m := by have := HK.out; unfold chCount at this; simpa using this
      subst hk
      clear hnx hrng hleft
      go_wp2_with (first | (at_next; refine wpList_next_ran rfl _ _ rfl rfl HNX.out ?_))
      go_ret
      exact ⟨rfl, HB.out⟩
    · have HNX := Lib.hid hnx
      have HEN := Lib.hid hen
      obtain ⟨hgl, A, cc, hcell⟩ := HF.out s (hsub s hs) g hF
      have hB1 : Below w.heap.size w w1 := HB.out.grown hg1 HB.out.size (fun k e => by cases e; exact Nat.le_refl _)
      have hcell1 : w1.cell? ⟨g, 5, none⟩ = some (.slice A (mine s D.chs).length cc) := (hB1.cell (p := ⟨g, 5, none⟩) hgl).trans hcell
      have hke := chCount_erase D.chs hs
      have hkk := HK.out
      obtain ⟨l, hl⟩ : ∃ l, (mine s D.chs).length = l := ⟨_, rfl⟩
      rw [hl] at hcell1 hke
      have hkl : k + l ≤ 4294967296 := by omega
      have HR1 := Lib.hid hrng1
      have HK1 : Hid (k + l + chCount (rest.erase s) D.chs = m) := Lib.hid (by omega)
      have HB1 := Lib.hid hB1
      have hl1 := hrng1.left
      clear hnx hen hrng hrng1 hcell hke hkk hl hB1 hg1 HK HB
      go_wp2_with (first | (at_next; refine wpList_next_ran rfl _ _ rfl rfl HNX.out ?_) | (refine wpList_entry_ran (o := ⟨some 15, _, _, _, _, _⟩) rfl _ rfl rfl HEN.out ?_))
      go_roundw
      case rel => exact ⟨k + l, rest.erase s, c1, by go_num, fun x hx => hsub x (List.mem_of_mem_erase hx), HR1.out, HK1, HB1⟩
      case measure => rw [hleft, hl1]; exact hlt

end Go.Proofs.Ytnjjjalenhbicaa.Disk

/-
  Files and their changes as a row of the call's own: appended to, sorted by number.
-/
namespace Go.Proofs.Ytnjjjalenhbicaa.Disk
open Go Go.RowKit Go.Lib Go.Sort Go.Proofs.Ytnjjjalenhbicaa.Law

/-- Files and changes as cells. -/
def flatX : List (Nat × Chg) → List Value
  | [] => []
  | x :: r => .pointer (some ⟨x.1, 0, none⟩) :: .int .i64 (x.2.n : Nat) :: .int .i64 (x.2.kind : Nat) :: .int .i64 (x.2.pos : Nat) :: .string x.2.s :: flatX r
theorem flatX_length : ∀ l : List (Nat × Chg), (flatX l).length = l.length * 5
  | [] => rfl
  | x :: r => by simp only [flatX, List.length_cons, flatX_length r]; omega
theorem flatX_append : ∀ a b : List (Nat × Chg), flatX (a ++ b) = flatX a ++ flatX b
  | [], b => by simp [flatX]
  | x :: a, b => by simp only [List.cons_append, flatX, flatX_append a b]
theorem flatX_one : ∀ l : List (Nat × Chg), ∀ u ∈ flatX l, u.oneCell' = true
  | [], u, h => by simp [flatX] at h
  | x :: r, u, h => by
    simp only [flatX, List.mem_cons] at h
    rcases h with rfl | rfl | rfl | rfl | rfl | h
    · rfl
    · rfl
    · rfl
    · rfl
    · rfl
    · exact flatX_one r u h
theorem flatX_get : ∀ (l : List (Nat × Chg)) (t : Nat), t < l.length * 5 → (flatX l)[t]? = some ((encX (l.toArray[t / 5]!))[t % 5]!)
  | [], t, h => by simp at h
  | x :: r, t, h => by
    by_cases h5 : t < 5
    · have e1 : t / 5 = 0 := by omega
      have e2 : t % 5 = t := by omega
      rw [e1, e2]
      match t, h5 with
      | 0, _ => rfl
      | 1, _ => rfl
      | 2, _ => rfl
      | 3, _ => rfl
      | 4, _ => rfl
    · obtain ⟨u, rfl⟩ : ∃ u, t = u + 5 := ⟨t - 5, by omega⟩
      have e1 : (u + 5) / 5 = u / 5 + 1 := by omega
      have e2 : (u + 5) % 5 = u % 5 := by omega
      rw [e1, e2]
      have := flatX_get r u (by simp only [List.length_cons] at h; omega)
      have e3 : (x :: r).toArray[u / 5 + 1]! = r.toArray[u / 5]! := by simp
      rw [e3]
      show (flatX r)[u]? = _
      exact this
theorem flatK_toList (l : List (Nat × Chg)) : (flatK encX 5 l.toArray).toList = flatX l := by
  apply List.ext_getElem?
  intro t
  by_cases h : t < l.length * 5
  · rw [flatX_get l t h]
    have hs : t < (flatK encX 5 l.toArray).size := by rw [size_flatK]; simpa using h
    have := get_flatK encX 5 l.toArray t (by simpa using h)
    rw [getElem!_pos _ t hs] at this
    rw [Array.getElem?_toList, Array.getElem?_eq_getElem hs, this]
  · rw [List.getElem?_eq_none (by rw [Array.length_toList, size_flatK]; simp; omega), List.getElem?_eq_none (by rw [flatX_length]; omega)]

/-- A row of files and changes. -/
def OwnX (W : World) (base : Nat) (v : Value) (l : List (Nat × Chg)) : Prop := W.ownsRow base 104 5 v l.length (flatX l)
theorem OwnX.nil (W : World) (base : Nat) : OwnX W base (.slice none 0 0) [] := ⟨rfl, .inl ⟨rfl, rfl⟩⟩
theorem OwnX.own {W : World} {base : Nat} {v : Value} {l : List (Nat × Chg)} (h : OwnX W base v l) : ∀ g, v.ownBlock = some g → base ≤ g ∧ g < W.heap.size := fun g hg => World.ownsRow.lt h g hg
theorem OwnX.form {W : World} {base : Nat} {v : Value} {l : List (Nat × Chg)} (h : OwnX W base v l) : ∃ A cap, v = .slice A l.length cap := by
  rcases h.2 with ⟨rfl, h0⟩ | ⟨g, cap, cur, rfl, _⟩
  · exact ⟨none, 0, by rw [h0]⟩
  · exact ⟨_, _, rfl⟩
theorem OwnX.keep {W W' : World} {base : Nat} {v : Value} {l : List (Nat × Chg)} (h : OwnX W base v l) (hb : ∀ g, v.ownBlock = some g → W'.heap[g]? = W.heap[g]?) : OwnX W' base v l := by
  refine ⟨h.1, ?_⟩
  rcases h.2 with h0 | ⟨g, cap, cur, rfl, h1, h2, h3⟩
  · exact .inl h0
  · exact .inr ⟨g, cap, cur, rfl, h1, (hb g rfl).trans h2, h3⟩
/-- The row's block is a row of such cells. -/
theorem OwnX.tag {W : World} {base : Nat} {v : Value} {l : List (Nat × Chg)} (h : OwnX W base v l) {g : Nat} (hg : v.ownBlock = some g) : ∃ cur, W.heap[g]? = some (.cells cur 104 (0, 0)) := by
  rcases h.2 with ⟨rfl, _⟩ | ⟨g', cap, cur, rfl, _, h2, _⟩
  · cases hg
  · simp only [Value.ownBlock, Option.some.injEq] at hg
    subst hg
    exact ⟨cur, h2⟩

theorem info_ofFile : (Try.prog.info? 104).map (fun i => (i.zero, i.size, i.bytes)) = some (some (.agg #[.pointer none, .int .i64 0, .int .i64 0, .int .i64 0, .string ⟨#[]⟩]), 5, 48) := by kernel_rfl

theorem OwnX.append {W : World} {base : Nat} {v : Value} {l : List (Nat × Chg)} (h : OwnX W base v l) (hbase : base ≤ W.heap.size) (x : Nat × Chg) (ty : TypeId) (b : Nat) {tg : TypeId}
    (hb : W.heap[b]? = some (.cells #[.pointer (some ⟨x.1, 0, none⟩), .int .i64 (x.2.n : Nat), .int .i64 (x.2.kind : Nat), .int .i64 (x.2.pos : Nat), .string x.2.s] tg (0, 0))) (hroom : (l.length + 1) * 48 ≤ 140737488355328) :
    ∃ v' W', (Builtin.append_ #[102, 102] ty #[v, .slice (some ⟨b, 0, none⟩) 1 1]).run Try.prog W = .ok v' W' ∧ OwnX W' base v' (l ++ [x]) ∧ W.grownBy W' v.ownBlock ∧ (v'.ownBlock = v.ownBlock ∨ v'.ownBlock = some W.heap.size) := by
  obtain ⟨i0, hi, hz0, hz1, hz2⟩ := info_parts info_ofFile
  obtain ⟨v', W', hrun, h2, h3, _, h5⟩ := run_append_own_at (P := Try.prog) W base 102 ty 104 i0 _ 5 48 Try.underlying102 hi hz0 hz1 hz2 rfl (by decide) v l.length (flatX l) h ⟨b, 0, none⟩ 1 1 (flatX [x]) (flatX_length [x])
    (fun j u hu => by
      rw [Addr.add_lit]
      match j, hu with
      | 0, hu => simp [flatX] at hu; subst hu; simp [World.cell?, hb]
      | 1, hu => simp [flatX] at hu; subst hu; simp [World.cell?, hb]
      | 2, hu => simp [flatX] at hu; subst hu; simp [World.cell?, hb]
      | 3, hu => simp [flatX] at hu; subst hu; simp [World.cell?, hb]
      | 4, hu => simp [flatX] at hu; subst hu; simp [World.cell?, hb]
      | j + 5, hu => simp [flatX] at hu) (flatX_one [x]) (by simp only [maxLen]; omega) hroom hbase
  refine ⟨v', W', hrun, ?_, h3, h5⟩
  show W'.ownsRow _ _ _ _ _ _
  rw [List.length_append, flatX_append]
  exact h2

theorem take_putCells_id (cur F : Array Value) (h : F.size ≤ cur.size) : (putCells id 0 F cur).toList.take F.size = F.toList := by
  apply List.ext_getElem?
  intro j
  by_cases hj : j < F.size
  · rw [List.getElem?_take_of_lt hj, Array.getElem?_toList]
    simp [putCells, hj, show j < cur.size by omega]
  · rw [List.getElem?_take_eq_none (by omega), List.getElem?_eq_none (by simp; omega)]

/-- A row that is sorted by number: the same ones, in their order. -/
theorem OwnX.sort {W : World} {base : Nat} {v : Value} {l m : List (Nat × Chg)} (h : OwnX W base v l) (hp : l.Perm m) (hm : m.Pairwise fun a b => a.2.n < b.2.n) (hlen : l.length ≤ 4294967296) :
    Calls Try.prog 58 #[v, .func (.func 59) #[] #[]] W fun e W' => e = .returned (.tuple #[]) ∧ OwnX W' base v m ∧ W.grownBy W' v.ownBlock := by
  by_cases h0 : l.length = 0
  · obtain ⟨A, cap, rfl⟩ := h.form
    have hl : l = [] := List.eq_nil_of_length_eq_zero h0
    subst hl
    have hm0 : m = [] := by simpa using hp.symm.eq_nil
    subst hm0
    have hcon := AnyF.slices_SortFunc_none (P := Try.prog) (ρ := _) { Try.sortOfFile with } A cap (.func (.func 59) #[] #[]) W
    change Calls Try.prog 58 _ _ _ at hcon
    refine hcon.mono ?_
    rintro e W' ⟨rfl, rfl⟩
    exact ⟨rfl, h, rfl, rfl, rfl, Nat.le_refl _, fun _ _ _ => rfl⟩
  · rcases h.2 with ⟨_, h1⟩ | ⟨g, cap, cur, rfl, hbg, hg, hn, hcm, hcs, ht⟩
    · exact absurd h1 h0
    · have hgl := (Array.getElem?_eq_some_iff.1 hg).1
      have hH : HoldsK encX 5 W g 0 l.toArray := by
        intro t ht'
        have ht2 : t < l.length * 5 := by simpa using ht'
        refine ⟨?_, by simp [World.frozen?, hg]⟩
        have h1 : (cur.toList.take (l.length * 5))[t]? = (flatX l)[t]? := by rw [ht]
        rw [List.getElem?_take_of_lt ht2, ← flatK_toList, Array.getElem?_toList, Array.getElem?_toList] at h1
        have hs : t < (flatK encX 5 l.toArray).size := ht'
        simp only [World.cell?, hg, Nat.zero_add, Option.isSome_none, Bool.false_eq_true, if_false]
        rw [h1, Array.getElem?_eq_getElem hs, getElem!_pos _ t hs]
        rfl
      have hcon := sortX_calls g 0 cap l.toArray W hH hgl (by simp; omega)
      simp only [List.size_toArray] at hcon
      refine hcon.mono ?_
      rintro e W' ⟨rfl, d', n, os, hperm, hsort, rfl⟩
      obtain ⟨hsz, _, hpp⟩ := hperm
      have hsz' : d'.size = l.length := by simpa using hsz
      have e1 : d'.extract 0 l.length = d' := by rw [← hsz']; simp
      have e2 : l.toArray.extract 0 l.length = l.toArray := by
        have : l.length = l.toArray.size := by simp
        rw [this]; simp
      rw [e1, e2] at hpp
      have hpm : d'.toList.Perm m := hpp.trans hp
      have hsorted : d'.toList.Pairwise fun a b => a.2.n ≤ b.2.n := by
        rw [List.pairwise_iff_getElem]
        intro i j hi hj hij
        have := hsort i j (Nat.zero_le _) hij (by rw [Array.length_toList] at hj; omega)
        rw [ltX, getElem!_pos d' i (by rw [Array.length_toList] at hi; exact hi), getElem!_pos d' j (by rw [Array.length_toList] at hj; exact hj)] at this
        simp only [decide_eq_false_iff_not, Nat.not_lt] at this
        simpa using this
      have hdm : d'.toList = m := by
        refine List.Perm.eq_of_pairwise (le := fun a b => a.2.n ≤ b.2.n) ?_ hsorted (hm.imp fun h => Nat.le_of_lt h) hpm
        intro a b ha hb h1 h2
        have ha' : a ∈ m := hpm.subset ha
        have he : a.2.n = b.2.n := Nat.le_antisymm h1 h2
        by_cases hab : a = b
        · exact hab
        · exfalso
          obtain ⟨i, hi, hia⟩ := List.getElem_of_mem ha'
          obtain ⟨j, hj, hjb⟩ := List.getElem_of_mem hb
          rw [List.pairwise_iff_getElem] at hm
          rcases Nat.lt_trichotomy i j with h | h | h
          · have := hm i j hi hj h
            rw [hia, hjb] at this; omega
          · subst h
            exact hab (hia.symm.trans hjb)
          · have := hm j i hj hi h
            rw [hia, hjb] at this; omega
      have hml : m.length = l.length := hp.length_eq.symm
      have hda : d' = m.toArray := by rw [← hdm]
      refine ⟨rfl, ⟨by rw [flatX_length], .inr ⟨g, cap, putCells id 0 (flatK encX 5 d') cur, by rw [hml], hbg, ?_, by omega, hcm, by simp [putCells, hcs], ?_⟩⟩, rfl, rfl, rfl, ?_, fun k hk hne => ?_⟩
      · unfold sortWorldK putRowK
        rw [heap_grow_old _ _ (by simp [putRow, mapBlock, Sort.ahead]; exact hgl)]
        simp [putRow, mapBlock, Sort.ahead, Array.getElem?_modify, hg, onCells]
      · have hFs : (flatK encX 5 d').size = m.length * 5 := by rw [size_flatK, hsz', hml]
        rw [← hFs, take_putCells_id _ _ (by rw [hFs, hcs, hml]; exact Nat.mul_le_mul_right 5 hn), hda, flatK_toList]
      · simp [sortWorldK, putRowK, putRow, mapBlock, Sort.ahead, grow]
      · unfold sortWorldK putRowK
        rw [heap_grow_old _ _ (by simp [putRow, mapBlock, Sort.ahead]; exact hk)]
        have : g ≠ k := fun e => hne (by simp [Value.ownBlock, e])
        simp [putRow, mapBlock, Sort.ahead, Array.getElem?_modify, this]

end Go.Proofs.Ytnjjjalenhbicaa.Disk
