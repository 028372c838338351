/-
  Contracts of the disk's Read, Durable, Pending, Used, Fail, Limit.
-/
import Derived.Test.YtlmohcmnoddncaaDiskSync
namespace Go.Proofs.Ytlmohcmnoddncaa.Disk
open Go Go.RowKit Go.Lib Go.Proofs.Ytlmohcmnoddncaa.Law

/-- What Read and Durable leave: bytes of the call's own. -/
def ReadD (w : World) (o : Option (List Nat)) (e : Ending) (W : World) : Prop := ∃ v, e = .returned (.tuple #[v, .bool o.isSome]) ∧ OwnB W w.heap.size 5 v (o.getD []) ∧ Below w.heap.size w W

theorem readD_of {w W W2 : World} {o : Option (List Nat)} {e : Ending} (hB : Below w.heap.size w W) (h : ReadOut W o.isSome (o.getD []) e W2) : ReadD w o e W2 := by
  obtain ⟨v, he, hO, hB2⟩ := h
  exact ⟨v, he, ownB_low hO hB.size, hB.trans (hB2.mono hB.size)⟩

set_option maxRecDepth 100000 in
set_option maxHeartbeats 2000000 in
theorem readD_calls (w : World) (O : Owner) (db : Nat) (D : DS) (h : DiskAt w O db D) (hw : WF D) (s : ByteArray) (hs : Short s) :
    Calls Try.prog 14 #[.pointer (some ⟨db, 0, none⟩), .string s] w (ReadD w (D.now s)) := by
  obtain ⟨v, ns, sl, cl, nt, st, ⟨h1, h2, h3, h4⟩, hb, hb2, hc⟩ := known_at h hw s hs
  obtain ⟨sh, na, nc, sa, sc, ca, cc⟩ := v
  have CK : Hid (Calls Try.prog 40 #[.pointer (some ⟨db, 0, none⟩), .string s] w (KnownOut w (.agg #[.bool nt, .slice na ns nc, .bool st, .slice sa sl sc, .bool sh, .slice ca cl cc]))) := Lib.hid hc
  have CR : Hid (∀ W, Below w.heap.size w W → Calls Try.prog 41 #[.agg #[.bool nt, .slice na ns nc]] W fun e W2 => ∃ A n c, e = .returned (.tuple #[.slice A n c, .bool nt]) ∧ Hid (ReadD w (D.now s) e W2)) := Lib.hid fun W hB => by
    have hl := hw.nowLe s
    have e := read_calls nt (.slice na ns nc) ((D.now s).getD []) (by rw [szO_getD]; omega) W (Buf.bytes (hb.below hB))
    refine e.mono ?_
    intro e W2 hr
    obtain ⟨v', rfl, hO, _⟩ := id hr
    obtain ⟨A, c, rfl⟩ := hO.bytes.form
    refine ⟨A, _, c, rfl, Lib.hid ?_⟩
    rw [h1] at hr ⊢
    exact readD_of hB hr
  have q0 := field_now nt st sh na sa ca ns nc sl sc cl cc
  clear hc hb hb2 h hw h1 h2 h3 h4
  go_enter Try.func14, Try.ntmps14
  go_wp2_with fail
  refine CK.out.mono ?_
  rintro e W ⟨rfl, hB⟩
  have cR := CR.out W hB
  have CRR := Lib.hid cR
  clear cR hB
  go_wp2_with fail
  refine CRR.out.mono ?_
  rintro e W2 ⟨A, n, c, rfl, HR⟩
  go_wp2_with fail
  go_ret2
  exact HR.out

set_option maxRecDepth 100000 in
set_option maxHeartbeats 2000000 in
theorem durableD_calls (w : World) (O : Owner) (db : Nat) (D : DS) (h : DiskAt w O db D) (hw : WF D) (s : ByteArray) (hs : Short s) :
    Calls Try.prog 16 #[.pointer (some ⟨db, 0, none⟩), .string s] w (ReadD w (D.safe s)) := by
  obtain ⟨v, ns, sl, cl, nt, st, ⟨h1, h2, h3, h4⟩, hb, hb2, hc⟩ := known_at h hw s hs
  obtain ⟨sh, na, nc, sa, sc, ca, cc⟩ := v
  have CK : Hid (Calls Try.prog 40 #[.pointer (some ⟨db, 0, none⟩), .string s] w (KnownOut w (.agg #[.bool nt, .slice na ns nc, .bool st, .slice sa sl sc, .bool sh, .slice ca cl cc]))) := Lib.hid hc
  have CR : Hid (∀ W, Below w.heap.size w W → Calls Try.prog 41 #[.agg #[.bool st, .slice sa sl sc]] W fun e W2 => ∃ A n c, e = .returned (.tuple #[.slice A n c, .bool st]) ∧ Hid (ReadD w (D.safe s) e W2)) := Lib.hid fun W hB => by
    have hl := hw.safeLe s
    have e := read_calls st (.slice sa sl sc) ((D.safe s).getD []) (by rw [szO_getD]; omega) W (Buf.bytes (hb2.below hB))
    refine e.mono ?_
    intro e W2 hr
    obtain ⟨v', rfl, hO, _⟩ := id hr
    obtain ⟨A, c, rfl⟩ := hO.bytes.form
    refine ⟨A, _, c, rfl, Lib.hid ?_⟩
    rw [h3] at hr ⊢
    exact readD_of hB hr
  have q0 := field_safe nt st sh na sa ca ns nc sl sc cl cc
  clear hc hb hb2 h hw h1 h2 h3 h4
  go_enter Try.func16, Try.ntmps16
  go_wp2_with fail
  refine CK.out.mono ?_
  rintro e W ⟨rfl, hB⟩
  have cR := CR.out W hB
  have CRR := Lib.hid cR
  clear cR hB
  go_wp2_with fail
  refine CRR.out.mono ?_
  rintro e W2 ⟨A, n, c, rfl, HR⟩
  go_wp2_with fail
  go_ret2
  exact HR.out

/-- How many changes the names to come have. -/
def chCount (names : List ByteArray) (l : List (ByteArray × Chg)) : Nat := (names.map fun s => (mine s l).length).sum
theorem count_perm (l : List (ByteArray × Chg)) {a b : List ByteArray} (h : a.Perm b) : chCount a l = chCount b l := by
  unfold chCount; exact (h.map _).sum_nat
theorem mine_cons (s : ByteArray) (x : ByteArray × Chg) (l : List (ByteArray × Chg)) : mine s (x :: l) = (if x.1 = s then [x.2] else []) ++ mine s l := by
  unfold mine
  by_cases h : x.1 = s
  · rw [List.filter_cons_of_pos (by simpa using h)]; simp [h]
  · rw [List.filter_cons_of_neg (by simpa using h)]; simp [h]
theorem count_cons_out (x : ByteArray × Chg) (l : List (ByteArray × Chg)) : ∀ names : List ByteArray, x.1 ∉ names → chCount names (x :: l) = chCount names l
  | [], _ => rfl
  | a :: r, h => by
    have h1 : x.1 ≠ a := fun e => h (by simp [e])
    have := count_cons_out x l r (fun e => h (List.mem_cons_of_mem _ e))
    unfold chCount at this ⊢
    rw [List.map_cons, List.map_cons, List.sum_cons, List.sum_cons, this, mine_cons, if_neg h1]
    simp
theorem count_cons_in (x : ByteArray × Chg) (l : List (ByteArray × Chg)) : ∀ names : List ByteArray, names.Nodup → x.1 ∈ names → chCount names (x :: l) = chCount names l + 1
  | [], _, h => by simp at h
  | a :: r, hn, h => by
    rw [List.nodup_cons] at hn
    by_cases ha : x.1 = a
    · have := count_cons_out x l r (by rw [ha]; exact hn.1)
      unfold chCount at this ⊢
      rw [List.map_cons, List.map_cons, List.sum_cons, List.sum_cons, this, mine_cons, if_pos ha]
      simp; omega
    · have h2 : x.1 ∈ r := by
        rcases List.mem_cons.1 h with e | e
        · exact absurd e ha
        · exact e
      have := count_cons_in x l r hn.2 h2
      unfold chCount at this ⊢
      rw [List.map_cons, List.map_cons, List.sum_cons, List.sum_cons, this, mine_cons, if_neg ha]
      simp; omega
theorem count_all (names : List ByteArray) (hn : names.Nodup) : ∀ l : List (ByteArray × Chg), (∀ x ∈ l, x.1 ∈ names) → chCount names l = l.length
  | [], _ => by
    unfold chCount
    have : (names.map fun s => (mine s ([] : List (ByteArray × Chg))).length) = names.map fun _ => 0 := rfl
    rw [this]
    clear this hn
    induction names with
    | nil => rfl
    | cons a r ih => simpa using ih
  | x :: l, h => by
    rw [count_cons_in x l names hn (h x (by simp)), count_all names hn l (fun y hy => h y (List.mem_cons_of_mem _ hy))]; rfl
theorem WF.countAll {D : DS} (h : WF D) : chCount D.names D.chs = D.chs.length := count_all _ h.nodup _ fun x hx => (h.names x.1).2 (.inr (.inr ⟨x.2, hx⟩))

end Go.Proofs.Ytlmohcmnoddncaa.Disk
