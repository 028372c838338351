/-
  Each step's call at the program's post and at the document's: the same answer, and the same messages behind it.
-/
import Derived.Test.YtjcgkjjomiapoaaMailTold
import Derived.Test.YtjcgkjjomiapoaaMailSteps
namespace Go.Proofs.Ytjcgkjjomiapoaa.Mail
open Go Go.RowKit Go.Proofs.Ytjcgkjjomiapoaa.Law

theorem msg_size (m : Mail3) : m.msg.s.size = m.bs.length := by
  show (str m.bs).size = _
  unfold str; show (m.bs.map UInt8.ofNat).toArray.size = _
  simp

/-- Messages that may be on their way. -/
def Good (l : List Mail3) : Prop := ∀ m ∈ l, m.bs.length ≤ 65536 ∧ ∀ x ∈ m.bs, x < 256
theorem Good.at {l : List Mail3} (h : Good l) {i : Nat} {m : Mail3} (hi : l[i]? = some m) : m.bs.length ≤ 65536 ∧ ∀ x ∈ m.bs, x < 256 := h m (List.mem_of_getElem? hi)
theorem Good.snoc {l : List Mail3} {m : Mail3} (h : Good l) (h1 : m.bs.length ≤ 65536) (h2 : ∀ x ∈ m.bs, x < 256) : Good (l ++ [m]) := fun x hx => by
  rcases List.mem_append.1 hx with hx | hx
  · exact h x hx
  · simp only [List.mem_singleton] at hx
    subst hx
    exact ⟨h1, h2⟩

def PostSide (base p : Nat) (nodes : Int) (l : List Mail3) (r : Int) (w : World) (e : Ending) (W : World) : Prop := e = .returned (.int .i64 r) ∧ Post W base p nodes (l.map Mail3.msg) ∧ Frm isPost base w W
def RefSide (base q : Nat) (nodes : Int) (l : List Mail3) (r : Int) (w : World) (e : Ending) (W : World) : Prop := e = .returned (.int .i64 r) ∧ RefPost W base q nodes l ∧ Frm isRef base w W

/-- Both calls answer r and leave the messages l'. -/
def Pair (base p q : Nat) (nodes : Int) (l l' : List Mail3) (r : Int) (f g : FuncId) (av bv : Array Value) (w : World) : Prop :=
  (∀ W, Below w.heap.size w W → base ≤ W.heap.size → Post W base p nodes (l.map Mail3.msg) → Calls Try.prog f av W (PostSide base p nodes l' r W)) ∧
  (∀ W, Below w.heap.size w W → base ≤ W.heap.size → RefPost W base q nodes l → Calls Try.prog g bv W (RefSide base q nodes l' r W))

theorem frm_isRef {S : TypeId → Bool} {B : Nat} {w W : World} (h : Frm S B w W) (hS : ∀ t, isRef t = false → S t = false) : Frm isRef B w W := h.more hS
theorem isRefP_isRef (t : TypeId) (h : isRef t = false) : isRefP t = false := by
  unfold isRef at h
  simp only [Bool.or_eq_false_iff] at h
  exact h.1
theorem isMail_isRef (t : TypeId) (h : isRef t = false) : isMail t = false := by
  unfold isRef at h
  simp only [Bool.or_eq_false_iff] at h
  exact h.2

theorem refused_post {base p : Nat} {nodes : Int} {l : List Mail3} {r : Int} {W : World} (hb : base ≤ W.heap.size) (h : Post W base p nodes (l.map Mail3.msg)) {e : Ending} {W' : World} (he : e = .returned (.int .i64 r)) (hB : Below W.heap.size W W') : PostSide base p nodes l r W e W' :=
  ⟨he, h.below hB, Frm.of_below hB hb⟩
theorem refused_ref {base q : Nat} {nodes : Int} {l : List Mail3} {r : Int} {W : World} (hb : base ≤ W.heap.size) (h : RefPost W base q nodes l) {e : Ending} {W' : World} (he : e = .returned (.int .i64 r)) (hB : Below W.heap.size W W') : RefSide base q nodes l r W e W' :=
  ⟨he, h.below hB, Frm.of_below hB hb⟩

theorem pair_twice (base p q : Nat) (nodes : Int) (l : List Mail3) (w : World) (hg : Good l) (hroom : l.length ≤ 1000) (i : Int) :
    ∃ r l', Pair base p q nodes l l' r 14 15 #[.pointer (some ⟨p, 0, none⟩), .int .i64 i] #[.pointer (some ⟨q, 0, none⟩), .int .i64 i] w ∧ Good l' ∧ l'.length ≤ l.length + 1 := by
  by_cases h : i < 0 ∨ (l.length : Nat) ≤ i
  · refine ⟨7, l, ⟨fun W _ hb hP => ?_, fun W _ hb hR => ?_⟩, hg, by omega⟩
    · exact (twice_none base p nodes _ W hP i (by rw [List.length_map]; exact h)).mono fun e W' ⟨he, hw⟩ => refused_post hb hP he (hw ▸ Below.refl _ _)
    · exact (refTwice_none base q nodes _ W hR i h).mono fun e W' ⟨he, hw⟩ => refused_ref hb hR he (hw ▸ Below.refl _ _)
  · obtain ⟨k, rfl⟩ : ∃ k : Nat, i = (k : Int) := ⟨i.toNat, by omega⟩
    obtain ⟨m, hm⟩ : ∃ m, l[k]? = some m := ⟨_, List.getElem?_eq_getElem (by omega)⟩
    have hgm := hg.at hm
    refine ⟨0, l ++ [m], ⟨fun W _ hb hP => ?_, fun W _ hb hR => ?_⟩, hg.snoc hgm.1 hgm.2, by simp⟩
    · exact (twice_calls base p nodes _ W hP hb k m.msg (by rw [List.getElem?_map, hm]; rfl) (by rw [List.length_map]; omega)).mono fun e W' ⟨he, h1, h2⟩ => ⟨he, by rw [List.map_append]; exact h1, h2⟩
    · exact refTwice_calls base q nodes l W hR hb k m hm hgm.1 (by omega)

theorem pair_lose (base p q : Nat) (nodes : Int) (l : List Mail3) (w : World) (hg : Good l) (hroom : l.length ≤ 1000) (node : Int) :
    ∃ r l', Pair base p q nodes l l' r 18 19 #[.pointer (some ⟨p, 0, none⟩), .int .i64 node] #[.pointer (some ⟨q, 0, none⟩), .int .i64 node] w ∧ Good l' ∧ l'.length ≤ l.length + 1 := by
  have hmap : (l.filter (keeps3 node)).map Mail3.msg = (l.map Mail3.msg).filter (keeps node) := by rw [List.filter_map]; rfl
  refine ⟨(l.length : Int) - ((l.filter (keeps3 node)).length : Int), l.filter (keeps3 node), ⟨fun W _ hb hP => ?_, fun W _ hb hR => ?_⟩, fun m hm => hg m (List.mem_filter.1 hm).1, by have := List.length_filter_le (keeps3 node) l; omega⟩
  · refine (lose_calls base p nodes _ W hP hb (by rw [List.length_map]; omega) node).mono fun e W' ⟨he, h1, h2⟩ => ⟨?_, by rw [hmap]; exact h1, h2⟩
    rw [he, ← hmap, List.length_map, List.length_map]
  · exact (refLose_calls base q nodes l W hR hb node (by omega)).mono fun e W' ⟨he, h1, h2⟩ => ⟨he, h1, h2.more isRefP_isRef⟩

theorem pair_send (base p q : Nat) (nodes : Int) (l : List Mail3) (w : World) (hg : Good l) (hroom : l.length ≤ 1000) (m : Mail3) (hml : m.bs.length ≤ maxLen) (u : Value) (hu : Bytes w.heap.size w u m.bs) :
    ∃ r l', Pair base p q nodes l l' r 9 10 #[.pointer (some ⟨p, 0, none⟩), mailV m.src m.dst u] #[.pointer (some ⟨q, 0, none⟩), mailV m.src m.dst u] w ∧ Good l' ∧ l'.length ≤ l.length + 1 := by
  by_cases hn : (0 ≤ m.src ∧ m.src < nodes) ∧ (0 ≤ m.dst ∧ m.dst < nodes)
  · by_cases hlong : 65536 < m.bs.length
    · obtain ⟨A, cap, rfl⟩ := hu.form
      refine ⟨2, l, ⟨fun W _ hb hP => ?_, fun W _ hb hR => ?_⟩, hg, by omega⟩
      · exact (send_long base p nodes _ W hP m.src m.dst hn.1 hn.2 A m.bs.length cap hlong hml).mono fun e W' ⟨he, hB⟩ => refused_post hb hP he hB
      · exact (refSend_long base q nodes _ W hR m.src m.dst hn.1 hn.2 A m.bs.length cap hlong hml).mono fun e W' ⟨he, hB⟩ => refused_ref hb hR he hB
    · refine ⟨0, l ++ [m], ⟨fun W hB hb hP => ?_, fun W hB hb hR => ?_⟩, hg.snoc (by omega) hu.lt, by simp⟩
      · exact (send_calls base p nodes _ W hP hb m.src m.dst hn.1 hn.2 u m.bs (hu.on hB) (by omega) (by rw [List.length_map]; omega)).mono fun e W' ⟨he, h1, h2⟩ => ⟨he, by rw [List.map_append]; exact h1, h2⟩
      · exact refSend_calls base q nodes l W hR hb m.src m.dst hn.1 hn.2 u m.bs (hu.on hB) (by omega) (by omega)
  · refine ⟨1, l, ⟨fun W _ hb hP => ?_, fun W _ hb hR => ?_⟩, hg, by omega⟩
    · exact (send_nodes base p nodes _ W hP m.src m.dst u hn).mono fun e W' ⟨he, hB⟩ => refused_post hb hP he hB
    · exact (refSend_nodes base q nodes _ W hR m.src m.dst u hn).mono fun e W' ⟨he, hB⟩ => refused_ref hb hR he hB

theorem set_lt {bs : List Nat} (h : ∀ x ∈ bs, x < 256) (k y : Nat) (hy : y < 256) : ∀ x ∈ bs.set k y, x < 256 := fun x hx => by
  rcases List.mem_or_eq_of_mem_set hx with h1 | rfl
  · exact h x h1
  · exact hy

theorem pair_spoil (base p q : Nat) (nodes : Int) (l : List Mail3) (w : World) (hg : Good l) (hroom : l.length ≤ 1000) (i k : Int) (b : Nat) (hb256 : b < 256) :
    ∃ r l', Pair base p q nodes l l' r 16 17 #[.pointer (some ⟨p, 0, none⟩), .int .i64 i, .int .i64 k, .int .u8 (b : Nat)] #[.pointer (some ⟨q, 0, none⟩), .int .i64 i, .int .i64 k, .int .u8 (b : Nat)] w ∧ Good l' ∧ l'.length ≤ l.length + 1 := by
  by_cases h : i < 0 ∨ (l.length : Nat) ≤ i
  · refine ⟨7, l, ⟨fun W _ hb hP => ?_, fun W _ hb hR => ?_⟩, hg, by omega⟩
    · exact (spoil_none base p nodes _ W hP i k b (by rw [List.length_map]; exact h)).mono fun e W' ⟨he, hw⟩ => refused_post hb hP he (hw ▸ Below.refl _ _)
    · exact (refSpoil_none base q nodes _ W hR i k b h).mono fun e W' ⟨he, hw⟩ => refused_ref hb hR he (hw ▸ Below.refl _ _)
  · obtain ⟨j, rfl⟩ : ∃ j : Nat, i = (j : Int) := ⟨i.toNat, by omega⟩
    obtain ⟨m, hm⟩ : ∃ m, l[j]? = some m := ⟨_, List.getElem?_eq_getElem (by omega)⟩
    have hgm := hg.at hm
    have hmm : (l.map Mail3.msg)[j]? = some m.msg := by rw [List.getElem?_map, hm]; rfl
    by_cases hk : k < 0 ∨ (m.bs.length : Int) ≤ k
    · refine ⟨8, l, ⟨fun W _ hb hP => ?_, fun W _ hb hR => ?_⟩, hg, by omega⟩
      · exact (spoil_range base p nodes _ W hP j m.msg hmm (by rw [msg_size]; exact hgm.1) k b (by rw [msg_size]; exact hk)).mono fun e W' ⟨he, hw⟩ => refused_post hb hP he (hw ▸ Below.refl _ _)
      · exact (refSpoil_range base q nodes l W hR j m hm (by omega) hgm.1 k b hk).mono fun e W' ⟨he, hw⟩ => refused_ref hb hR he (hw ▸ Below.refl _ _)
    · obtain ⟨c, rfl⟩ : ∃ c : Nat, k = (c : Int) := ⟨k.toNat, by omega⟩
      have hbo : bytesOf m.msg.s = m.bs := bytesOf_str hgm.2
      have hx : m.bs.getD c 0 ^^^ b < 256 := Nat.xor_lt_two_pow (n := 8) (getD_lt hgm.2 c) hb256
      refine ⟨0, l.set j ⟨m.src, m.dst, m.bs.set c (m.bs.getD c 0 ^^^ b)⟩, ⟨fun W _ hb hP => ?_, fun W _ hb hR => ?_⟩, fun y hy => ?_, by rw [List.length_set]; omega⟩
      · refine (spoil_calls base p nodes _ W hP hb j m.msg hmm (by rw [msg_size]; exact hgm.1) c (by rw [msg_size]; omega) b hb256).mono fun e W' ⟨he, h1, h2⟩ => ⟨he, ?_, h2⟩
        rw [hbo] at h1
        rw [List.map_set]
        exact h1
      · exact (refSpoil_calls base q nodes l W hR hb j m hm (by omega) hgm.1 c (by omega) b hb256).mono fun e W' ⟨he, h1, h2⟩ => ⟨he, h1, h2.more isMail_isRef⟩
      · rcases List.mem_or_eq_of_mem_set hy with h1 | rfl
        · exact hg y h1
        · exact ⟨by simpa using hgm.1, set_lt hgm.2 _ _ hx⟩

end Go.Proofs.Ytjcgkjjomiapoaa.Mail
