/-
  Put together out of texts of one chain: what they hold stands ahead of each.
-/
import Derived.Test.YtmegiilkcidanaaGDiskCopies19
import Derived.Test.YtmegiilkcidanaaFrm
/-
  Contracts of the document's disk: Right, find, Get.
-/
namespace Go.Proofs.Ytmegiilkcidanaa.Disk
open Go Go.RowKit Go.Sort Go.Lib Go.Proofs.Ytmegiilkcidanaa.Law

set_option maxRecDepth 100000 in
set_option maxHeartbeats 2000000 in
theorem refRight_calls (s : ByteArray) (w : World) (hs63 : s.size ≤ 9223372036854775807) : Calls Try.prog 64 #[.string s] w fun e W => e = .returned (.bool (rightB s)) ∧ W = w := by
  obtain ⟨r, hr⟩ : ∃ r, rightB s = r := ⟨_, rfl⟩
  rw [hr]
  have HR := Lib.hid hr
  have HBL := Lib.hid (bytesS_length s)
  clear hr
  go_enter Try.func64, Try.ntmps64
  go_wp2_with fail
  go_loopw [3] (fun i wr => ∃ k : Nat, i = .int .i64 k ∧ k ≤ s.size ∧ Hid (((bytesS s).take k).all okByte = true) ∧ wr = w) (fun i _ => s.size - (intOf i).toNat)
  case atStart => exact ⟨0, rfl, Nat.zero_le _, Lib.hid (by simp), rfl⟩
  case round =>
    obtain ⟨k, rfl, hk, HA, rfl⟩ := hrel
    by_cases hlt : k < s.size
    · have hltI : (k : Int) < (s.size : Int) := by omega
      have hb : (bytesS s)[k]? = some s[k].toNat := by
        unfold bytesS
        rw [List.getElem?_map, Array.getElem?_toList, Array.getElem?_eq_getElem (show k < s.data.size from hlt)]
        rfl
      have HB := Lib.hid hb
      clear hb
      rcases (show (s[k].toNat < 48 ∧ s[k].toNat ≠ 45) ∨ (s[k].toNat = 45) ∨ (48 ≤ s[k].toNat ∧ s[k].toNat ≤ 57) ∨ (58 ≤ s[k].toNat ∧ s[k].toNat ≤ 96) ∨ (97 ≤ s[k].toNat ∧ s[k].toNat ≤ 122) ∨ (123 ≤ s[k].toNat) by omega) with hx | hx | hx | hx | hx | hx
      · have i0 : ¬ 97 ≤ (s[k].toNat : Int) := by omega
        have i1 : ¬ 48 ≤ (s[k].toNat : Int) := by omega
        have i9 : ((s[k].toNat : Int) == 45) = false := by rw [beq_eq_false_iff_ne]; omega
        have hok : okByte s[k].toNat = false := by unfold okByte; simp; omega
        have hrf : r = false := by
          rw [← HR.out, rightB, Bool.and_eq_false_iff]
          right
          rw [List.all_eq_false]
          exact ⟨s[k].toNat, List.mem_of_getElem? HB.out, by rw [hok]; decide⟩
        subst hrf
        clear hok hx HA HB HR
        go_wp2_with fail
        go_ret
        exact ⟨rfl, rfl⟩
      · have i0 : ¬ 97 ≤ (s[k].toNat : Int) := by omega
        have i1 : ¬ 48 ≤ (s[k].toNat : Int) := by omega
        have i9 : ((s[k].toNat : Int) == 45) = true := by rw [beq_iff_eq]; omega
        have hok : okByte s[k].toNat = true := by unfold okByte; simp; omega
        have HN : Hid (((bytesS s).take (k + 1)).all okByte = true) := Lib.hid (by
          obtain ⟨hl, he⟩ := List.getElem?_eq_some_iff.1 HB.out
          rw [List.take_succ_eq_append_getElem hl, he, List.all_append, HA.out]
          simpa using hok)
        clear hok hx HA HB
        go_wp2_with fail
        go_roundw
        case rel => exact ⟨k + 1, by go_num, by omega, HN, trivial⟩
        case measure => simp [intOf]; omega
      · have i0 : ¬ 97 ≤ (s[k].toNat : Int) := by omega
        have i1 : 48 ≤ (s[k].toNat : Int) := by omega
        have i2 : (s[k].toNat : Int) ≤ 57 := by omega
        have hok : okByte s[k].toNat = true := by unfold okByte; simp; omega
        have HN : Hid (((bytesS s).take (k + 1)).all okByte = true) := Lib.hid (by
          obtain ⟨hl, he⟩ := List.getElem?_eq_some_iff.1 HB.out
          rw [List.take_succ_eq_append_getElem hl, he, List.all_append, HA.out]
          simpa using hok)
        clear hok hx HA HB
        go_wp2_with fail
        go_roundw
        case rel => exact ⟨k + 1, by go_num, by omega, HN, trivial⟩
        case measure => simp [intOf]; omega
      · have i0 : ¬ 97 ≤ (s[k].toNat : Int) := by omega
        have i1 : 48 ≤ (s[k].toNat : Int) := by omega
        have i2 : ¬ (s[k].toNat : Int) ≤ 57 := by omega
        have i9 : ((s[k].toNat : Int) == 45) = false := by rw [beq_eq_false_iff_ne]; omega
        have hok : okByte s[k].toNat = false := by unfold okByte; simp; omega
        have hrf : r = false := by
          rw [← HR.out, rightB, Bool.and_eq_false_iff]
          right
          rw [List.all_eq_false]
          exact ⟨s[k].toNat, List.mem_of_getElem? HB.out, by rw [hok]; decide⟩
        subst hrf
        clear hok hx HA HB HR
        go_wp2_with fail
        go_ret
        exact ⟨rfl, rfl⟩
      · have i0 : 97 ≤ (s[k].toNat : Int) := by omega
        have i1 : (s[k].toNat : Int) ≤ 122 := by omega
        have hok : okByte s[k].toNat = true := by unfold okByte; simp; omega
        have HN : Hid (((bytesS s).take (k + 1)).all okByte = true) := Lib.hid (by
          obtain ⟨hl, he⟩ := List.getElem?_eq_some_iff.1 HB.out
          rw [List.take_succ_eq_append_getElem hl, he, List.all_append, HA.out]
          simpa using hok)
        clear hok hx HA HB
        go_wp2_with fail
        go_roundw
        case rel => exact ⟨k + 1, by go_num, by omega, HN, trivial⟩
        case measure => simp [intOf]; omega
      · have i0 : 97 ≤ (s[k].toNat : Int) := by omega
        have i1 : ¬ (s[k].toNat : Int) ≤ 122 := by omega
        have i3 : 48 ≤ (s[k].toNat : Int) := by omega
        have i2 : ¬ (s[k].toNat : Int) ≤ 57 := by omega
        have i9 : ((s[k].toNat : Int) == 45) = false := by rw [beq_eq_false_iff_ne]; omega
        have hok : okByte s[k].toNat = false := by unfold okByte; simp; omega
        have hrf : r = false := by
          rw [← HR.out, rightB, Bool.and_eq_false_iff]
          right
          rw [List.all_eq_false]
          exact ⟨s[k].toNat, List.mem_of_getElem? HB.out, by rw [hok]; decide⟩
        subst hrf
        clear hok hx HA HB HR
        go_wp2_with fail
        go_ret
        exact ⟨rfl, rfl⟩
    · obtain rfl : k = s.size := by omega
      have hall : (bytesS s).all okByte = true := by
        have := HA.out
        rwa [List.take_of_length_le (by rw [HBL.out]; exact Nat.le_refl _)] at this
      clear hlt HA
      by_cases h1 : 1 ≤ s.size
      · have h1I : (1 : Int) ≤ (s.size : Int) := by omega
        by_cases h2 : s.size ≤ 32
        · have h2I : (s.size : Int) ≤ 32 := by omega
          have hrf : r = true := by rw [← HR.out, rightB, hall, decide_eq_true ⟨h1, h2⟩]; rfl
          subst hrf
          clear HR hall
          go_wp2_with fail
          go_ret
          exact ⟨rfl, rfl⟩
        · have h2I : ¬ (s.size : Int) ≤ 32 := by omega
          have hrf : r = false := by rw [← HR.out, rightB, decide_eq_false (by omega)]; rfl
          subst hrf
          clear HR hall
          go_wp2_with fail
          go_ret
          exact ⟨rfl, rfl⟩
      · have h1I : ¬ (1 : Int) ≤ (s.size : Int) := by omega
        have hrf : r = false := by rw [← HR.out, rightB, decide_eq_false (by omega)]; rfl
        subst hrf
        clear HR hall
        go_wp2_with fail
        go_ret
        exact ⟨rfl, rfl⟩

/-- A file of the document's disk: its name and bytes, and the slice that holds these. -/
abbrev RF := (ByteArray × List Nat) × Value
/-- Files as cells. -/
def flatF : List RF → List Value
  | [] => []
  | p :: r => .string p.1.1 :: p.2 :: flatF r
theorem flatF_length : ∀ l : List RF, (flatF l).length = l.length * 2
  | [] => rfl
  | p :: r => by simp only [flatF, List.length_cons, flatF_length r]; omega
theorem flatF_append : ∀ a b : List RF, flatF (a ++ b) = flatF a ++ flatF b
  | [], b => by simp [flatF]
  | x :: a, b => by simp only [List.cons_append, flatF, flatF_append a b]
theorem flatF_at : ∀ (l : List RF) (i : Nat) (h : i < l.length), (flatF l)[i * 2]? = some (.string l[i].1.1) ∧ (flatF l)[i * 2 + 1]? = some l[i].2
  | [], i, h => by simp at h
  | p :: r, 0, _ => ⟨rfl, rfl⟩
  | p :: r, i + 1, h => by
    have := flatF_at r i (by simpa using h)
    have e : (i + 1) * 2 = i * 2 + 2 := by omega
    rw [e]
    exact this
/-- A row of files. -/
def FilesAt (W : World) (base : Nat) (v : Value) (ps : List RF) : Prop := W.ownsRow base 71 2 v ps.length (flatF ps) ∧ ∀ p ∈ ps, Buf W base 5 p.2 p.1.2
theorem FilesAt.form {W : World} {base : Nat} {v : Value} {ps : List RF} (h : FilesAt W base v ps) : ∃ A c, v = .slice A ps.length c := by
  rcases h.1.2 with ⟨rfl, h0⟩ | ⟨g, cap, cur, rfl, _⟩
  · exact ⟨none, 0, by rw [h0]⟩
  · exact ⟨_, _, rfl⟩
theorem FilesAt.nil (W : World) (base : Nat) : FilesAt W base (.slice none 0 0) [] := ⟨⟨rfl, .inl ⟨rfl, rfl⟩⟩, by simp⟩
theorem FilesAt.below {W W' : World} {base : Nat} {v : Value} {ps : List RF} (h : FilesAt W base v ps) (hB : Below W.heap.size W W') : FilesAt W' base v ps := by
  refine ⟨⟨h.1.1, ?_⟩, fun p hp => (h.2 p hp).below hB⟩
  have hlt := h.1.lt
  rcases h.1.2 with h0 | ⟨g, cap, cur, rfl, h1, h2, h3⟩
  · exact .inl h0
  · exact .inr ⟨g, cap, cur, rfl, h1, (hB.block g (hlt g rfl).2).trans h2, h3⟩
theorem FilesAt.cell {W : World} {base n cap : Nat} {A : Option Addr} {ps : List RF} (h : FilesAt W base (.slice A n cap) ps) {i : Nat} (hi : i < ps.length) : n ≤ cap ∧ ∃ g, A = some ⟨g, 0, none⟩ ∧ g < W.heap.size ∧ W.cell? ⟨g, i * 2, none⟩ = some (.string ps[i].1.1) ∧ W.cell? ⟨g, i * 2 + 1, none⟩ = some ps[i].2 := by
  have hcell := fun (g : Nat) (hg : (Value.slice A n cap).ownBlock = some g) => h.1.cells hg
  rcases h.1.2 with ⟨_, h0⟩ | ⟨g, cap', cur, hv, _, hg, hn, _⟩
  · omega
  · simp only [Value.slice.injEq] at hv
    obtain ⟨rfl, rfl, rfl⟩ := hv
    obtain ⟨f0, f1⟩ := flatF_at ps i hi
    refine ⟨hn, g, rfl, (Array.getElem?_eq_some_iff.1 hg).1, ?_, ?_⟩
    · have := hcell g rfl _ _ f0; rwa [Addr.add_lit, Nat.zero_add] at this
    · have := hcell g rfl _ _ f1; rwa [Addr.add_lit, Nat.zero_add] at this

/-- Where a name stands. -/
def findP (ps : List RF) (s : ByteArray) : Option Nat := ps.findIdx? fun p => decide (p.1.1 = s)
def findI (ps : List RF) (s : ByteArray) : Int := match findP ps s with
  | some i => (i : Int)
  | none => -1

set_option maxRecDepth 100000 in
set_option maxHeartbeats 2000000 in
theorem refFind_calls (v : Value) (ps : List RF) (hps : ps.length ≤ 4294967296) (s : ByteArray) (base : Nat) (w : World) (h : FilesAt w base v ps) : Calls Try.prog 55 #[v, .string s] w fun e W => e = .returned (.int .i64 (findI ps s)) ∧ W = w := by
  obtain ⟨A, cap, rfl⟩ := h.form
  obtain ⟨N, hN⟩ : ∃ N, ps.length = N := ⟨_, rfl⟩
  have HN := Lib.hid hN
  have H := Lib.hid h
  obtain ⟨r, hr⟩ : ∃ r, findI ps s = r := ⟨_, rfl⟩
  have HR := Lib.hid hr
  rw [hr]
  rw [hN] at hps H ⊢
  clear h hN hr
  go_enter Try.func55, Try.ntmps55
  go_wp2_with fail
  go_loopw [5] (fun i wr => ∃ k : Nat, i = .int .i64 k ∧ k ≤ N ∧ Hid (∀ j (hj : j < ps.length), j < k → ps[j].1.1 ≠ s) ∧ wr = w) (fun i _ => N - (intOf i).toNat)
  case atStart => exact ⟨0, rfl, Nat.zero_le _, Lib.hid (fun j _ hj => by omega), rfl⟩
  case round =>
    obtain ⟨k, rfl, hk, HA, rfl⟩ := hrel
    by_cases hlt : k < N
    · obtain ⟨hnc, g, rfl, hg, c0, c1⟩ := H.out.cell (i := k) (by rw [HN.out]; exact hlt)
      obtain ⟨x, hx⟩ : ∃ x, (ps[k]'(by rw [HN.out]; exact hlt)).1.1 = x := ⟨_, rfl⟩
      rw [hx] at c0
      have hltI : (k : Int) < (N : Int) := by omega
      have hncI : (N : Int) ≤ (cap : Int) := by omega
      have HX := Lib.hid hx
      clear c1 hx
      by_cases he : x = s
      · subst he
        have hrf : r = (k : Int) := by
          rw [← HR.out, findI, findP]
          rw [(List.findIdx?_eq_some_iff_getElem).2 ⟨by rw [HN.out]; exact hlt, by rw [HX.out]; simp, fun j hj => by have := HA.out j (by rw [HN.out]; omega) hj; simpa using this⟩]
        have hk63 : (k : Int) < 4294967296 := by omega
        subst hrf
        clear HA HR HX
        have hc : (x.toList == x.toList) = true := by simp
        go_wp2_with fail
        all_goals first | (go_ret; exact ⟨rfl, rfl⟩) | trace_state
      · have hc : (x.toList == s.toList) = false := by
          rw [beq_eq_false_iff_ne]
          intro h0
          apply he
          rw [Lib.toList_data, Lib.toList_data] at h0
          exact ByteArray.ext (Array.toList_inj.1 h0)
        have HA' : Hid (∀ j (hj : j < ps.length), j < k + 1 → ps[j].1.1 ≠ s) := Lib.hid (by
          intro j hj hlt'
          by_cases h1 : j < k
          · exact HA.out j hj h1
          · obtain rfl : j = k := by omega
            rw [HX.out]; exact he)
        clear HA HX he
        go_wp2_with fail
        go_roundw
        case rel => exact ⟨k + 1, by go_num, by omega, HA', trivial⟩
        case measure => simp [intOf]; omega
    · obtain rfl : k = N := by omega
      have hrf : r = -1 := by
        rw [← HR.out, findI, findP]
        rw [(List.findIdx?_eq_none_iff).2 (fun p hp => by
          obtain ⟨j, hj, rfl⟩ := List.getElem_of_mem hp
          simpa using HA.out j hj (by rw [← HN.out]; exact hj))]
      subst hrf
      clear HA HR
      go_wp2_with fail
      go_ret
      exact ⟨rfl, rfl⟩

end Go.Proofs.Ytmegiilkcidanaa.Disk

/-
  Contracts of the document's disk: Get, ready, Used.
-/
namespace Go.Proofs.Ytmegiilkcidanaa.Disk
open Go Go.RowKit Go.Sort Go.Lib Go.Proofs.Ytmegiilkcidanaa.Law

/-- A name's file. -/
def getF (ps : List RF) (s : ByteArray) : Option RF := (findP ps s).bind fun i => ps[i]?
theorem findP_lt {ps : List RF} {s : ByteArray} {i : Nat} (h : findP ps s = some i) : i < ps.length := by
  obtain ⟨h1, _⟩ := List.findIdx?_eq_some_iff_getElem.1 h
  exact h1
theorem getF_cases (ps : List RF) (s : ByteArray) : (getF ps s = none ∧ findI ps s = -1) ∨ ∃ (i : Nat) (h : i < ps.length), getF ps s = some ps[i] ∧ findI ps s = (i : Int) := by
  cases hf : findP ps s with
  | none => left; exact ⟨by rw [getF, hf]; rfl, by rw [findI, hf]⟩
  | some i =>
    right
    have hl := findP_lt hf
    exact ⟨i, hl, by rw [getF, hf]; simp [hl], by rw [findI, hf]⟩
/-- Its slice. -/
def getV (ps : List RF) (s : ByteArray) : Value := match getF ps s with
  | some p => p.2
  | none => .slice none 0 0
def GetR (w : World) (ps : List RF) (s : ByteArray) (e : Ending) (W : World) : Prop := e = .returned (.tuple #[getV ps s, .bool (getF ps s).isSome]) ∧ W = w

set_option maxRecDepth 100000 in
set_option maxHeartbeats 2000000 in
theorem refGet_calls (v : Value) (ps : List RF) (hps : ps.length ≤ 4294967296) (s : ByteArray) (base : Nat) (w : World) (h : FilesAt w base v ps) : Calls Try.prog 37 #[v, .string s] w (GetR w ps s) := by
  obtain ⟨A, cap, rfl⟩ := h.form
  have CF := Lib.hid (refFind_calls _ ps hps s base w h)
  rcases getF_cases ps s with ⟨h1, h2⟩ | ⟨i, hi, h1, h2⟩
  · rw [h2] at CF
    have HR : Hid (GetR w ps s (.returned (.tuple #[.slice none 0 0, .bool false])) w) := Lib.hid ⟨by rw [getV, h1]; rfl, rfl⟩
    obtain ⟨N, hN⟩ : ∃ N, ps.length = N := ⟨_, rfl⟩
    rw [hN] at CF ⊢
    clear h h1 h2 hN
    go_enter Try.func37, Try.ntmps37
    go_wp2_with fail
    refine CF.out.mono ?_
    clear CF
    rintro e W ⟨rfl, rfl⟩
    go_wp2_with fail
    go_ret2
    exact HR.out
  · rw [h2] at CF
    have hz := h.2 ps[i] (List.getElem_mem _)
    obtain ⟨hnc, g, rfl, hg, c0, c1⟩ := h.cell hi
    obtain ⟨A1, cap1, hv1, _⟩ := hz.form
    rw [hv1] at c1
    have HR : Hid (GetR w ps s (.returned (.tuple #[.slice A1 ps[i].1.2.length cap1, .bool true])) w) := Lib.hid ⟨by rw [getV, h1, ← hv1]; rfl, rfl⟩
    obtain ⟨N, hN⟩ : ∃ N, ps.length = N := ⟨_, rfl⟩
    obtain ⟨M, hM⟩ : ∃ M, ps[i].1.2.length = M := ⟨_, rfl⟩
    rw [hM] at c1 HR
    rw [hN] at CF hnc hi ⊢
    have hiI : (i : Int) < (N : Int) := by omega
    have hi0 : 0 ≤ (i : Int) := by omega
    have hncI : (N : Int) ≤ (cap : Int) := by omega
    rw [hN] at hps
    have hN63 : (N : Int) ≤ 4294967296 := by omega
    clear h h1 h2 hN hM hv1 hz c0
    go_enter Try.func37, Try.ntmps37
    go_wp2_with fail
    refine CF.out.mono ?_
    clear CF
    rintro e W ⟨rfl, rfl⟩
    go_wp2_with fail
    go_ret2
    exact HR.out

/-- The document's disk's block. -/
def RD (W : World) (q : Nat) (room : Int) (fails : Bool) (nv sv cv : Value) : Prop :=
  W.heap[q]? = some (.cells #[.int .i64 room, .bool fails, nv, sv, cv] 32 (0, 0))
theorem RD.cells {W : World} {q : Nat} {room : Int} {fails : Bool} {nv sv cv : Value} (h : RD W q room fails nv sv cv) :
    (W.cell? ⟨q, 0, none⟩ = some (.int .i64 room) ∧ W.cell? ⟨q, 1, none⟩ = some (.bool fails) ∧ W.cell? ⟨q, 2, none⟩ = some nv ∧ W.cell? ⟨q, 3, none⟩ = some sv ∧ W.cell? ⟨q, 4, none⟩ = some cv) ∧
      ∀ i, W.frozen? ⟨q, i, none⟩ = false := by
  unfold RD at h
  refine ⟨⟨?_, ?_, ?_, ?_, ?_⟩, fun i => ?_⟩ <;> simp [World.cell?, World.frozen?, h]
theorem RD.lt {W : World} {q : Nat} {room : Int} {fails : Bool} {nv sv cv : Value} (h : RD W q room fails nv sv cv) : q < W.heap.size := (Array.getElem?_eq_some_iff.1 h).1
theorem RD.below {W W' : World} {q : Nat} {room : Int} {fails : Bool} {nv sv cv : Value} (h : RD W q room fails nv sv cv) (hB : Below W.heap.size W W') : RD W' q room fails nv sv cv := (hB.block q h.lt).trans h

set_option maxRecDepth 100000 in
set_option maxHeartbeats 2000000 in
theorem refReady_calls (q : Nat) (room : Int) (fails : Bool) (nv sv cv : Value) (s : ByteArray) (hs63 : s.size ≤ 9223372036854775807) (k : Int) (w : World) (h : RD w q room fails nv sv cv) :
    Calls Try.prog 50 #[.pointer (some ⟨q, 0, none⟩), .string s, .int .i64 k] w fun e W => e = .returned (.int .i64 (refN fails s k : Nat)) ∧ W = w := by
  obtain ⟨⟨_, c1, _⟩, _⟩ := h.cells
  have CN := Lib.hid (refRight_calls s w hs63)
  obtain ⟨n, hn⟩ : ∃ n, refN fails s k = n := ⟨_, rfl⟩
  rw [hn]
  have HN := Lib.hid hn
  clear hn h
  cases fails with
  | true =>
    have : n = 16 := by rw [← HN.out]; rfl
    subst this
    clear HN
    go_enter Try.func50, Try.ntmps50
    go_wp2_with fail
    go_ret
    exact ⟨rfl, rfl⟩
  | false =>
    have hn : (if rightB s = false ∨ k < 0 then 1 else 0) = n := by rw [← HN.out]; rfl
    have HN2 := Lib.hid hn
    clear hn HN
    obtain ⟨r, hr⟩ : ∃ r, rightB s = r := ⟨_, rfl⟩
    rw [hr] at CN HN2
    clear hr
    go_enter Try.func50, Try.ntmps50
    go_wp2_with fail
    refine CN.out.mono ?_
    clear CN
    rintro e W ⟨rfl, rfl⟩
    cases r with
    | false =>
      have : n = 1 := by rw [← HN2.out]; rfl
      subst this
      clear HN2
      go_wp2_with fail
      go_ret
      exact ⟨rfl, rfl⟩
    | true =>
      by_cases hk : k < 0
      · have : n = 1 := by rw [← HN2.out]; simp [hk]
        subst this
        clear HN2
        go_wp2_with fail
        go_ret
        exact ⟨rfl, rfl⟩
      · have : n = 0 := by rw [← HN2.out]; simp [hk]
        subst this
        have hkI : 0 ≤ k := by omega
        clear HN2 hk
        go_wp2_with fail
        go_ret
        exact ⟨rfl, rfl⟩

end Go.Proofs.Ytmegiilkcidanaa.Disk

/-
  The contract of the document's disk's over.
-/
namespace Go.Proofs.Ytmegiilkcidanaa.Disk
open Go Go.RowKit Go.Sort Go.Lib Go.Proofs.Ytmegiilkcidanaa.Law

def lenV : Value → Nat
  | .slice _ n _ => n
  | _ => 0
theorem over_end (bs : List Nat) (k : Nat) (ds : List Nat) (hk : k ≤ bs.length) : overL (bs ++ List.replicate (k + ds.length - bs.length) 0) k ds = overL bs k ds := by
  unfold overL
  rw [List.take_append_of_le_length hk]
  by_cases h : k + ds.length ≤ bs.length
  · rw [Nat.sub_eq_zero_of_le h]; simp
  · rw [List.drop_of_length_le (by simp; omega), List.drop_of_length_le (by omega)]
theorem over_set (X : List Nat) (k : Nat) (ds : List Nat) (j : Nat) (hj : j < ds.length) (hX : k + ds.length ≤ X.length) : (overL X k (ds.take j)).set (k + j) (ds.getD j 0) = overL X k (ds.take (j + 1)) := by
  unfold overL
  have e1 : (ds.take j).length = j := by rw [List.length_take]; omega
  have e2 : (ds.take (j + 1)).length = j + 1 := by rw [List.length_take]; omega
  have e3 : X.drop (k + j) = X[k + j] :: X.drop (k + (j + 1)) := by rw [List.drop_eq_getElem_cons (by omega)]; rfl
  have e4 : ds.getD j 0 = ds[j] := by simp [List.getD, hj]
  rw [e1, e2, e3, e4, List.set_append_right _ _ (by rw [List.length_append, List.length_take, e1]; omega)]
  have e5 : k + j - (X.take k ++ ds.take j).length = 0 := by rw [List.length_append, List.length_take, e1]; omega
  rw [e5, List.set_cons_zero, List.take_succ_eq_append_getElem hj]
  simp only [List.append_assoc, List.cons_append, List.nil_append]
theorem over_zero (X : List Nat) (k : Nat) : overL X k [] = X := by
  unfold overL; simp
theorem over_len (X : List Nat) (k : Nat) (ds : List Nat) (hX : k + ds.length ≤ X.length) : (overL X k ds).length = X.length := by
  rw [overL_length _ _ (by omega)]; omega

/-- What `over` leaves: bytes of the call's own. -/
def OverO (w : World) (out : List Nat) (e : Ending) (W : World) : Prop := ∃ A c, e = .returned (.slice A out.length c) ∧ OwnB W w.heap.size 5 (.slice A out.length c) out ∧ Below w.heap.size w W

set_option maxRecDepth 100000 in
set_option maxHeartbeats 2000000 in
theorem refOver_calls (bv dv : Value) (bs ds : List Nat) (k : Nat) (hk : k ≤ bs.length) (hb : bs.length ≤ 4294967296) (hd : ds.length ≤ 4294967296) (w : World) (hB0 : Bytes w.heap.size w bv bs) (hD0 : Bytes w.heap.size w dv ds) :
    Calls Try.prog 52 #[bv, .int .i64 k, dv] w (OverO w (overL bs k ds)) := by
  obtain ⟨i0, hi, hz0, hz1, hz2⟩ := info_parts info_u8
  obtain ⟨bA, bcap, rfl⟩ := hB0.form
  obtain ⟨dA, dcap, rfl⟩ := hD0.form
  obtain ⟨L, hL⟩ : ∃ L, bs.length = L := ⟨_, rfl⟩
  obtain ⟨M, hM⟩ : ∃ M, ds.length = M := ⟨_, rfl⟩
  have HL := Lib.hid hL
  have HM := Lib.hid hM
  rw [hL] at hB0 hk hb ⊢
  rw [hM] at hD0 hd ⊢
  have HD := Lib.hid hD0
  have HDL := Lib.hid (fun (W : World) (h : Below w.heap.size w W) => hD0.on h)
  have hlit := World.ownsRow_lit (base := w.heap.size) (size := 1) (e := 5) w #[] 0 (Nat.le_refl _) (by simp [maxLen]) rfl
  have HLIT : Hid (OwnB (w.alloc (.cells #[] 5)) w.heap.size 5 (.slice (some ⟨w.heap.size, 0, none⟩) 0 0) []) := Lib.hid ⟨hlit, by simp⟩
  have hB1 := (Below.refl w.heap.size w).alloc (Nat.le_refl _) (.cells #[] 5)
  obtain ⟨v2, w2, R2, O2, G2, _⟩ := run_append_bytes (P := Try.prog) (w.alloc (.cells #[] 5)) 34 Try.underlying34 hi hz0 hz1 hz2 rfl HLIT.out (hB0.on hB1) (by rw [hL]; simp; omega) hB1.size
  have hB2 : Below w.heap.size w w2 := below_append hB1 G2 HLIT.out (Nat.le_refl _) hB1.size
  rw [List.nil_append] at O2
  obtain ⟨A2, c2, rfl⟩ := O2.bytes.form
  have R2' := Lib.hid R2
  have O2' := Lib.hid O2
  have HB2 := Lib.hid hB2
  rw [hL] at R2' O2'
  clear R2 O2 hB2 hB1 hlit HLIT hB0 hD0 G2 hL hM
  obtain ⟨Z, hZ⟩ : ∃ Z, k + M - L = Z := ⟨_, rfl⟩
  have HZ := Lib.hid hZ
  clear hZ
  go_enter Try.func52, Try.ntmps52
  go_wp2_with (at_builtin; refine wpList_append_ran rfl _ _ _ rfl rfl rfl R2'.out ?_)
  go_loopw [7] (fun o wr => ∃ (j : Nat) (A : Option Addr) (c : Nat), o = .slice A (L + j : Nat) c ∧ j ≤ Z ∧ Hid (OwnB wr w.heap.size 5 (.slice A (L + j) c) (bs ++ List.replicate j 0)) ∧ Hid (Below w.heap.size w wr)) (fun o _ => L + Z - lenV o)
  case atStart => exact ⟨0, A2, c2, by simp, Nat.zero_le _, by simpa using O2', HB2⟩
  case round =>
    obtain ⟨j, A, c, rfl, hj, HO, HB⟩ := hrel
    clear HB2 O2' R2'
    by_cases hlt : L + j < k + M
    · have hltI : ((L : Int) + (j : Int)) < (k : Int) + (M : Int) := by omega
      have hBa := HB.out.alloc HB.out.size (.cells #[.int .u8 0] 5)
      obtain ⟨v3, w3, R3, O3, G3, _⟩ := run_append_bytes (P := Try.prog) (wr.alloc (.cells #[.int .u8 0] 5)) 34 Try.underlying34 hi hz0 hz1 hz2 rfl (HO.out.alloc _)
        (Bytes.lit wr 5 #[.int .u8 0] [0] 1 rfl (by decide) rfl (by decide)) (by simp [HL.out]; omega) hBa.size
      have hB3 := below_append hBa G3 (HO.out.alloc _) (Nat.le_refl _) hBa.size
      have e1 : bs ++ List.replicate j 0 ++ [0] = bs ++ List.replicate (j + 1) 0 := by rw [List.append_assoc, ← List.replicate_succ']
      rw [e1] at O3
      obtain ⟨A3, c3, rfl⟩ := O3.bytes.form
      have e2 : (bs ++ List.replicate (j + 1) 0).length = L + j + 1 := by simp [HL.out]; omega
      rw [e2] at O3 R3
      have R3' := Lib.hid R3
      have O3' := Lib.hid O3
      have HB3 := Lib.hid hB3
      clear R3 O3 hB3 hBa e1 e2 G3 HB HO
      go_wp2_with (at_builtin; refine wpList_append_ran rfl _ _ _ rfl rfl rfl R3'.out ?_)
      go_roundw
      case rel => exact ⟨j + 1, A3, c3, rfl, by have := HZ.out; omega, O3', HB3⟩
      case measure => have := HZ.out; simp [lenV]; omega
    · have hltI : ¬ ((L : Int) + (j : Int)) < (k : Int) + (M : Int) := by omega
      obtain rfl : j = Z := by have := HZ.out; omega
      have hX : (bs ++ List.replicate j 0).length = L + j := by simp [HL.out]
      have hXk : k + M ≤ L + j := by omega
      have HX := Lib.hid hX
      have HE : Hid (overL (bs ++ List.replicate j 0) k ds = overL bs k ds) := Lib.hid (by
        have := over_end bs k ds (by rw [HL.out]; exact hk)
        rw [HM.out, HL.out, HZ.out] at this; exact this)
      obtain ⟨X, hXX⟩ : ∃ X, bs ++ List.replicate j 0 = X := ⟨_, rfl⟩
      rw [hXX] at HO HX HE
      obtain ⟨T, hT⟩ : ∃ T, L + j = T := ⟨_, rfl⟩
      rw [hT] at HO HX hXk ⊢
      have hT' : (L : Int) + (j : Int) = (T : Int) := by omega
      have hcap : (T : Int) ≤ (c : Int) := by have := HO.out.bytes.capOk; omega
      clear hX hXX hT HL
      go_wp2_with fail
      clear HZ
      obtain ⟨wA, rfl⟩ : ∃ x, x = wr := ⟨_, rfl⟩
      go_loopw [8] (fun i wr => ∃ m : Nat, i = .int .i64 m ∧ m ≤ M ∧ Hid (OwnB wr w.heap.size 5 (.slice A T c) (overL X k (ds.take m))) ∧ Hid (Below w.heap.size w wr)) (fun i _ => M - (intOf i).toNat)
      case atStart => exact ⟨0, rfl, Nat.zero_le _, by rw [List.take_zero, over_zero]; exact HO, HB⟩
      case round =>
        obtain ⟨m, rfl, hm, HO2, HB2⟩ := hrel
        by_cases hlt2 : m < M
        · have hmI : (m : Int) < (M : Int) := by omega
          have hlen : (overL X k (ds.take m)).length = T := by rw [over_len _ _ _ (by rw [HX.out, List.length_take, HM.out]; omega), HX.out]
          have HO3 : Hid (OwnB wr w.heap.size 5 (.slice A (overL X k (ds.take m)).length c) (overL X k (ds.take m))) := by rw [hlen]; exact HO2
          obtain ⟨g, c', he, hgb, hgl⟩ := HO3.out.form (by omega)
          simp only [Value.slice.injEq] at he
          obtain ⟨rfl, _, rfl⟩ := he
          obtain ⟨n, hn⟩ : ∃ n, k + m = n := ⟨_, rfl⟩
          have hnI : (k : Int) + (m : Int) = (n : Int) := by omega
          have hnT : (n : Int) < (T : Int) := by omega
          obtain ⟨ct, cf⟩ := HO2.out.cell hlen n (by omega)
          have hDw := HDL.out wr HB2.out
          obtain ⟨gd, od, rfl, hgd, cd⟩ := hDw.cells (by omega)
          have hdc := hDw.capOk
          have hdcI : (M : Int) ≤ (dcap : Int) := by omega
          have cd' := cd m hlt2
          have hst := HO2.out.store hlen n (ds.getD m 0) (getD_lt hDw.lt m)
          rw [← hn, over_set X k ds m (by rw [HM.out]; exact hlt2) (by rw [HM.out, HX.out]; exact hXk), hn] at hst
          have HST := Lib.hid hst
          have HB4 : Hid (Below w.heap.size w (wr.setCell ⟨g, n, none⟩ (.int .u8 ((ds.getD m 0 : Nat) : Int)))) := Lib.hid (HB2.out.setCell (by exact hgb) _)
          clear hst cd hDw HO2 HO3 hn
          go_wp2_with fail
          go_roundw
          case rel => exact ⟨m + 1, by go_num, by omega, HST, HB4⟩
          case measure => simp [intOf]; omega
        · obtain rfl : m = M := by omega
          have hfin : overL X k (ds.take m) = overL bs k ds := by rw [List.take_of_length_le (by rw [HM.out]; exact Nat.le_refl _), HE.out]
          have hln : (overL bs k ds).length = T := by rw [← hfin, over_len _ _ _ (by rw [HX.out, List.length_take, HM.out]; omega), HX.out]
          have HFIN : Hid (OverO w (overL bs k ds) (.returned (.slice A T c)) wr) := Lib.hid ⟨A, c, by rw [hln], by rw [hln, ← hfin]; exact HO2.out, HB2.out⟩
          clear hfin hln HO2 HB2
          go_wp2_with fail
          go_ret
          exact HFIN.out

end Go.Proofs.Ytmegiilkcidanaa.Disk
