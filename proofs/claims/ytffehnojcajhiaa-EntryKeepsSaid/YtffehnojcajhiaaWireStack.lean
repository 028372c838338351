/-
  Items out of bytes by a row of open parts: plain definitions and facts.
-/
import Derived.Test.YtffehnojcajhiaaWireItemA
namespace Go.Proofs.Ytffehnojcajhiaa.Wire
open Go Go.Proofs.Ytffehnojcajhiaa.Law

theorem rdTop_fuel : ∀ (f f' c : Nat) (bs : List Nat) (acc : List Item), c ≤ 4096 → 4097 ≤ f + c → 4097 ≤ f' + c → rdTop f c bs acc = rdTop f' c bs acc := by
  intro f
  induction f with
  | zero => intro f' c bs acc hc h h'; omega
  | succ f ih =>
    intro f' c bs acc hc h h'
    obtain ⟨f', rfl⟩ : ∃ g, f' = g + 1 := ⟨f' - 1, by omega⟩
    rw [rdTop, rdTop]
    split
    · rfl
    · match hq : rdI 8 c bs with
      | .error e => rfl
      | .ok (x, c', bs') =>
        have := rdI_count 8 c bs x c' bs' hq
        exact ih f' c' bs' _ this.2.1 (by omega) (by omega)

/-- What comes of open parts: the innermost one's items and how many are to come, and those ahead of it. -/
def unw : List (List Item × Int) → List Item → Int → Nat → List Nat → Except Nat (List Item)
  | [], acc, _, c, bs => rdTop (4097 - c) c bs acc
  | (a, t) :: ps, acc, n, c, bs =>
    match rdL (rdI (8 - (ps.length + 1))) n.toNat c bs acc with
    | .error e => .error e
    | .ok (l, c', bs') => unw ps (a ++ [.mk 2 0 noT l]) (t - 1) c' bs'

theorem unw_done (acc : List Item) (n : Int) (c : Nat) (hc : c ≤ 4096) : unw [] acc n c [] = .ok acc := by
  rw [unw]
  obtain ⟨f, hf⟩ : ∃ f, 4097 - c = f + 1 := ⟨4096 - c, by omega⟩
  rw [hf, rdTop, if_pos rfl]

theorem unw_close (a : List Item) (t : Int) (ps : List (List Item × Int)) (acc : List Item) (c : Nat) (bs : List Nat) : unw ((a, t) :: ps) acc 0 c bs = unw ps (a ++ [.mk 2 0 noT acc]) (t - 1) c bs := by
  rw [unw]
  rfl

/-- Something is to come yet. -/
def More (ps : List (List Item × Int)) (n : Int) (bs : List Nat) : Prop := (ps = [] → bs ≠ []) ∧ (ps ≠ [] → 0 < n)

theorem unw_step (ps : List (List Item × Int)) (acc : List Item) (n : Int) (c : Nat) (bs : List Nat) (hm : More ps n bs) (hc : c ≤ 4096) (hd : ps.length ≤ 8) : unw ps acc n c bs =
    match rdI (8 - ps.length) c bs with
    | .error e => .error e
    | .ok (x, c', bs') => unw ps (acc ++ [x]) (n - 1) c' bs' := by
  cases ps with
  | nil =>
    obtain ⟨f, hf⟩ : ∃ f, 4097 - c = f + 1 := ⟨4096 - c, by omega⟩
    rw [unw, hf, rdTop, if_neg (hm.1 rfl)]
    simp only [List.length_nil, Nat.sub_zero]
    match hq : rdI 8 c bs with
    | .error e => rfl
    | .ok (x, c', bs') =>
      have := rdI_count 8 c bs x c' bs' hq
      simp only [unw]
      exact rdTop_fuel _ _ _ _ _ this.2.1 (by omega) (by omega)
  | cons p ps =>
    obtain ⟨a, t⟩ := p
    have h0 := hm.2 (by simp)
    obtain ⟨m, hm'⟩ : ∃ m : Nat, n.toNat = m + 1 := ⟨n.toNat - 1, by omega⟩
    have hm1 : (n - 1).toNat = m := by omega
    simp only [unw, hm', rdL, List.length_cons, hm1]
    match hq : rdI (8 - (ps.length + 1)) c bs with
    | .error e => rfl
    | .ok (x, c', bs') => rfl

theorem unw_long (ps : List (List Item × Int)) (acc : List Item) (n : Int) (c : Nat) (bs : List Nat) (hm : More ps n bs) (hc : c ≤ 4096) (hd : ps.length ≤ 8) (h : c = 4096 ∨ ps.length = 8) : unw ps acc n c bs = .error 2 := by
  rw [unw_step ps acc n c bs hm hc hd]
  rcases h with rfl | h
  · obtain ⟨b, hb⟩ | hb : (∃ b, 8 - ps.length = b + 1) ∨ 8 - ps.length = 0 := by
      rcases Nat.eq_zero_or_pos (8 - ps.length) with h | h
      · exact .inr h
      · exact .inl ⟨8 - ps.length - 1, by omega⟩
    · rw [hb, rdI, if_pos (by omega)]
    · rw [hb, rdI]
  · rw [h, Nat.sub_self, rdI]

theorem unw_head (ps : List (List Item × Int)) (acc : List Item) (n : Int) (c : Nat) (bs : List Nat) (hm : More ps n bs) (hc : c < 4096) (hd : ps.length < 8) {e : Nat} (h : rdHead bs = .error e) : unw ps acc n c bs = .error e := by
  rw [unw_step ps acc n c bs hm (by omega) (by omega)]
  obtain ⟨b, hb⟩ : ∃ b, 8 - ps.length = b + 1 := ⟨8 - ps.length - 1, by omega⟩
  rw [hb, rdI, if_neg (by omega), h]

theorem unw_int (ps : List (List Item × Int)) (acc : List Item) (n : Int) (c : Nat) (bs : List Nat) (hm : More ps n bs) (hc : c < 4096) (hd : ps.length < 8) {m : Nat} {r : List Nat} (h : rdHead bs = .ok (0, m, r)) :
    unw ps acc n c bs = unw ps (acc ++ [.mk 0 (unzig m) noT []]) (n - 1) (c + 1) r := by
  rw [unw_step ps acc n c bs hm (by omega) (by omega)]
  obtain ⟨b, hb⟩ : ∃ b, 8 - ps.length = b + 1 := ⟨8 - ps.length - 1, by omega⟩
  rw [hb, rdI, if_neg (by omega), h]
  rfl

theorem unw_end (ps : List (List Item × Int)) (acc : List Item) (n : Int) (c : Nat) (bs : List Nat) (hm : More ps n bs) (hc : c < 4096) (hd : ps.length < 8) {m : Nat} {r : List Nat} (h : rdHead bs = .ok (1, m, r)) (hr : r.length < m) :
    unw ps acc n c bs = .error 5 := by
  rw [unw_step ps acc n c bs hm (by omega) (by omega)]
  obtain ⟨b, hb⟩ : ∃ b, 8 - ps.length = b + 1 := ⟨8 - ps.length - 1, by omega⟩
  rw [hb, rdI, if_neg (by omega), h]
  simp [hr]

theorem unw_text (ps : List (List Item × Int)) (acc : List Item) (n : Int) (c : Nat) (bs : List Nat) (hm : More ps n bs) (hc : c < 4096) (hd : ps.length < 8) {m : Nat} {r : List Nat} (h : rdHead bs = .ok (1, m, r)) (hr : ¬ r.length < m) :
    unw ps acc n c bs = unw ps (acc ++ [.mk 1 0 (str (r.take m)) []]) (n - 1) (c + 1) (r.drop m) := by
  rw [unw_step ps acc n c bs hm (by omega) (by omega)]
  obtain ⟨b, hb⟩ : ∃ b, 8 - ps.length = b + 1 := ⟨8 - ps.length - 1, by omega⟩
  rw [hb, rdI, if_neg (by omega), h]
  simp [hr]

theorem unw_list (ps : List (List Item × Int)) (acc : List Item) (n : Int) (c : Nat) (bs : List Nat) (hm : More ps n bs) (hc : c < 4096) (hd : ps.length < 8) {m : Nat} {r : List Nat} (h : rdHead bs = .ok (2, m, r)) :
    unw ps acc n c bs = unw ((acc, n) :: ps) [] m (c + 1) r := by
  rw [unw_step ps acc n c bs hm (by omega) (by omega), unw]
  obtain ⟨b, hb⟩ : ∃ b, 8 - ps.length = b + 1 := ⟨8 - ps.length - 1, by omega⟩
  have hb2 : 8 - (ps.length + 1) = b := by omega
  rw [hb, hb2, rdI, if_neg (by omega), h]
  simp only [Int.toNat_natCast, show ¬ ((2 : Nat) = 0) by omega, show ¬ ((2 : Nat) = 1) by omega, if_false]
  match hq : rdL (rdI b) m (c + 1) r [] with
  | .error e => rfl
  | .ok (l, c', bs') => rfl

/-- What a head is. -/
theorem head_is {bs : List Nat} {k m : Nat} {r : List Nat} (h : rdHead bs = .ok (k, m, r)) : k ≤ 2 ∧ (k ≠ 0 → m ≤ 9223372036854775807) ∧ m < 18446744073709551616 ∧ r.length < bs.length := by
  match bs, h with
  | [], h => simp [rdHead] at h
  | q :: bs, h =>
    rw [rdHead] at h
    split at h
    · cases h
    · match hz : rdNum 0 0 bs with
      | .error e => rw [hz] at h; cases h
      | .ok (m', r2) =>
        rw [hz] at h
        simp only at h
        split at h
        · cases h
        · rename_i h1 h2
          simp only [Except.ok.injEq, Prod.mk.injEq] at h
          obtain ⟨rfl, rfl, rfl⟩ := h
          have h3 := (rdNum_length bs 0 0 _ _ hz).1
          have h4 := rdNum_lt bs 0 0 _ _ (by omega) (by decide) hz
          refine ⟨by omega, fun hq => ?_, h4, by simp; omega⟩
          rcases Nat.lt_or_ge 9223372036854775807 m' with h5 | h5
          · exact absurd ⟨hq, h5⟩ h2
          · exact h5

end Go.Proofs.Ytffehnojcajhiaa.Wire
