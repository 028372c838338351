/-
  What the statements' own helpers do with bytes: Same, Room, Kept.
-/
import Derived.Test.YtffehnojcajhiaaOps
import Derived.Laws.IdiomStrings
import Derived.OwnWalk
import Derived.Lib.SlicesS
import Derived.Test.YtffehnojcajhiaaChecked
namespace Go.Proofs.Ytffehnojcajhiaa.Law
open Go Go.RowKit

/-- The bytes as a string. -/
def str (bs : List Nat) : ByteArray := ⟨(bs.map UInt8.ofNat).toArray⟩

theorem str_inj {a b : List Nat} (ha : ∀ x ∈ a, x < 256) (hb : ∀ x ∈ b, x < 256) (h : str a = str b) : a = b := by
  unfold str at h
  have h1 : (a.map UInt8.ofNat).toArray = (b.map UInt8.ofNat).toArray := by injection h
  have h2 : a.map UInt8.ofNat = b.map UInt8.ofNat := by simpa using h1
  have h3 : ∀ l : List Nat, (∀ x ∈ l, x < 256) → (l.map UInt8.ofNat).map UInt8.toNat = l := by
    intro l hl
    rw [List.map_map]
    conv => rhs; rw [← List.map_id l]
    apply List.map_congr_left
    intro x hx
    have := hl x hx
    simp [Nat.mod_eq_of_lt this]
  rw [← h3 a ha, ← h3 b hb, h2]

theorem run_string_bytes {P : Program} (w : World) {src dst e : TypeId} (hs : P.underlying src = some (.slice e)) (he : P.underlying e = some (.int .u8)) (hd : P.underlying dst = some .string) {n : Nat} {sv : Value} {bs : List Nat} (hI : Bytes n w sv bs) :
    (convert src dst sv).run P w = .ok (.string (str bs)) w := by
  obtain ⟨A, cap, rfl, _, hA, h256, hc⟩ := hI
  cases A with
  | none =>
    have hb0 : bs.length = 0 := by
      rcases Nat.eq_zero_or_pos bs.length with h0 | h0
      · exact h0
      · obtain ⟨b, off, he, _⟩ := hc h0
        cases he
    obtain rfl : bs = [] := List.length_eq_zero_iff.1 hb0
    obtain rfl : cap = 0 := hA rfl
    exact (run_convert_bytes_string w src dst e none 0 0 hs he hd).trans rfl
  | some a =>
    have h := run_convert_bytes_back (P := P) w src dst e a cap (bs.map UInt8.ofNat) hs he hd (fun j hj => by
      rw [List.length_map] at hj
      obtain ⟨b, off, he, _, hcell⟩ := hc (by omega)
      obtain rfl : a = ⟨b, off, none⟩ := by simpa using he
      rw [Addr.add_lit, hcell j hj]
      have e1 : bs.getD j 0 = bs[j] := by simp [List.getD, hj]
      have h1 : bs[j] < 256 := h256 _ (List.getElem_mem _)
      simp only [List.getElem_map, UInt8.toNat_ofNat']
      rw [e1, Nat.mod_eq_of_lt h1])
    rw [List.length_map] at h
    exact h

theorem OwnB.below {W W' : World} {base : Nat} {e : TypeId} {sv : Value} {bs : List Nat} (h : OwnB W base e sv bs) (hb : Below W.heap.size W W') : OwnB W' base e sv bs := by
  have hlt := h.1.lt
  refine ⟨⟨h.1.1, ?_⟩, h.2⟩
  rcases h.1.2 with h0 | ⟨g, cap, cur, rfl, h1, h2, h3⟩
  · exact .inl h0
  · exact .inr ⟨g, cap, cur, rfl, h1, (hb.block g (hlt g rfl).2).trans h2, h3⟩
/-- The front of a row of the call's own, as bytes. -/
theorem OwnB.front {W : World} {base g len cap : Nat} {e : TypeId} {bs : List Nat} (h : OwnB W base e (.slice (some ⟨g, 0, none⟩) len cap) bs) (k : Nat) (hk : k ≤ len) (hl : bs.length = len) : Bytes W.heap.size W (.slice (some ⟨g, 0, none⟩) k cap) (bs.take k) := by
  subst hl
  exact h.bytes.front k hk
theorem OwnB.capOk {W : World} {base g len cap : Nat} {e : TypeId} {bs : List Nat} (h : OwnB W base e (.slice (some ⟨g, 0, none⟩) len cap) bs) (hl : bs.length = len) : len ≤ cap := by
  subst hl
  exact h.bytes.capOk

/-- What Room hands back: a piece of a row of its own that has three marked bytes behind it. -/
def Roomy (W0 : World) (bs : List Nat) (e : Ending) (W : World) : Prop :=
  ∃ g cap, e = .returned (.slice (some ⟨g, 0, none⟩) bs.length cap) ∧ OwnB W W0.heap.size 5 (.slice (some ⟨g, 0, none⟩) (bs.length + 3) cap) (bs ++ [171, 172, 173]) ∧ Below W0.heap.size W0 W

theorem info_u8 : (Try.prog.info? 5).map (fun i => (i.zero, i.size, i.bytes)) = some (some (.int .u8 0), 1, 1) := by kernel_rfl

end Go.Proofs.Ytffehnojcajhiaa.Law
