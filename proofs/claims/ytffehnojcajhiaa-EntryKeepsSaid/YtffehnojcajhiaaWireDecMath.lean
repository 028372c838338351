/-
  What is read is what would be written: plain facts.
-/
import Derived.Test.YtffehnojcajhiaaWireBackMath
import Derived.Test.YtffehnojcajhiaaWireStack
namespace Go.Proofs.Ytffehnojcajhiaa.Wire
open Go Go.Proofs.Ytffehnojcajhiaa.Law

theorem rdNum_back : ∀ (bs : List Nat) (i n m : Nat) (r : List Nat), i ≤ 9 → (∀ x ∈ bs, x < 256) → rdNum i n bs = .ok (m, r) → ∃ q, m = n + q * 128 ^ i ∧ numF (9 - i) q ++ r = bs ∧ (0 < i → 0 < q)
  | [], i, n, m, r, _, _, h => by simp [rdNum] at h
  | x :: bs, i, n, m, r, hi, hb, h => by
    have hx : x < 256 := hb x (by simp)
    rw [rdNum] at h
    split at h
    · cases h
    · rename_i hbad
      split at h
      · rename_i hs
        simp only [Except.ok.injEq, Prod.mk.injEq] at h
        obtain ⟨rfl, rfl⟩ := h
        refine ⟨x, by rw [Nat.mod_eq_of_lt hs], ?_, fun h0 => ?_⟩
        · have : numF (9 - i) x = [x] := by
            cases 9 - i with
            | zero => rfl
            | succ f => rw [numF, if_pos hs]
          rw [this]; rfl
        · rcases Nat.eq_zero_or_pos x with h1 | h1
          · exact absurd (.inr ⟨h0, h1⟩) hbad
          · exact h1
      · rename_i hs
        have h9 : i ≠ 9 := fun e => hbad (.inl ⟨e, by omega⟩)
        obtain ⟨q, h1, h2, h3⟩ := rdNum_back bs (i + 1) _ m r (by omega) (fun y hy => hb y (by simp [hy])) h
        have hq := h3 (by omega)
        refine ⟨x % 128 + q * 128, ?_, ?_, fun _ => by omega⟩
        · rw [h1, Nat.pow_succ, Nat.add_mul, Nat.mul_assoc q 128, Nat.mul_comm 128 (128 ^ i)]
          omega
        · obtain ⟨f, hf⟩ : ∃ f, 9 - i = f + 1 := ⟨9 - i - 1, by omega⟩
          have hf2 : 9 - (i + 1) = f := by omega
          rw [hf2] at h2
          rw [hf, numF, if_neg (by omega), show (x % 128 + q * 128) % 128 + 128 = x by omega, show (x % 128 + q * 128) / 128 = q by omega, List.cons_append, h2]

theorem num_back {bs : List Nat} {m : Nat} {r : List Nat} (hb : ∀ x ∈ bs, x < 256) (h : rdNum 0 0 bs = .ok (m, r)) : num m ++ r = bs := by
  obtain ⟨q, h1, h2, _⟩ := rdNum_back bs 0 0 m r (by omega) hb h
  have : m = q := by simpa using h1
  subst this
  exact h2

theorem zig_unzig (u : Nat) : zig (unzig u) = u := by
  unfold zig unzig
  split <;> split <;> omega

theorem sb_str {l : List Nat} (h : ∀ x ∈ l, x < 256) : sb (str l) = l := by
  unfold sb str
  rw [List.map_map]
  have : ∀ x ∈ l, (UInt8.toNat ∘ UInt8.ofNat) x = id x := fun x hx => by
    have := h x hx
    simp [UInt8.toNat_ofNat_of_lt' this]
  rw [List.map_congr_left this, List.map_id]

theorem head_back {bs : List Nat} {k m : Nat} {r : List Nat} (hb : ∀ x ∈ bs, x < 256) (h : rdHead bs = .ok (k, m, r)) : k :: (num m ++ r) = bs := by
  match bs, h with
  | [], h => simp [rdHead] at h
  | q :: bs, h =>
    rw [rdHead] at h
    split at h
    · cases h
    · match hz : rdNum 0 0 bs with
      | .error e => rw [hz] at h; cases h
      | .ok (m', r2) =>
        rw [hz] at h
        simp only at h
        split at h
        · cases h
        · simp only [Except.ok.injEq, Prod.mk.injEq] at h
          obtain ⟨rfl, rfl, rfl⟩ := h
          rw [num_back (fun x hx => hb x (by simp [hx])) hz]

theorem unzig_ok {u : Nat} (h : u < 18446744073709551616) : -9223372036854775808 ≤ unzig u ∧ unzig u ≤ 9223372036854775807 := by
  unfold unzig
  split <;> omega

theorem mem_right {a b : List Nat} {P : Nat → Prop} (h : ∀ x ∈ a ++ b, P x) : ∀ x ∈ b, P x := fun x hx => h x (List.mem_append_right _ hx)

theorem rdI_back : ∀ (b d c : Nat) (bs : List Nat) (x : Item) (c' : Nat) (r : List Nat), d + b = 9 → (∀ x ∈ bs, x < 256) → bs.length ≤ 65536 → rdI b c bs = .ok (x, c', r) → x.bytes ++ r = bs ∧ chkI d c x = (c', 0) ∧ x.sized := by
  intro b
  induction b with
  | zero => intro d c bs x c' r _ _ _ h; simp [rdI] at h
  | succ b ih =>
    have hL : ∀ (n d c : Nat) (bs : List Nat) (acc l : List Item) (c' : Nat) (r : List Nat), d + b = 9 → (∀ x ∈ bs, x < 256) → bs.length ≤ 65536 → rdL (rdI b) n c bs acc = .ok (l, c', r) →
        ∃ l2, l = acc ++ l2 ∧ l2.length = n ∧ bytesL l2 ++ r = bs ∧ chkL d c l2 = (c', 0) ∧ sizedL l2 := by
      intro n
      induction n with
      | zero =>
        intro d c bs acc l c' r _ _ _ h
        simp only [rdL, Except.ok.injEq, Prod.mk.injEq] at h
        obtain ⟨rfl, rfl, rfl⟩ := h
        exact ⟨[], by simp, rfl, rfl, rfl, trivial⟩
      | succ n ihn =>
        intro d c bs acc l c' r hd hb hbl h
        rw [rdL] at h
        match hq : rdI b c bs with
        | .error e => rw [hq] at h; cases h
        | .ok (y, c2, r2) =>
          rw [hq] at h
          obtain ⟨h1, h2, h3⟩ := ih d c bs y c2 r2 hd hb hbl hq
          have hr2 : ∀ x ∈ r2, x < 256 := mem_right (a := y.bytes) (by rw [h1]; exact hb)
          have hrl : r2.length ≤ 65536 := by rw [← h1] at hbl; simp at hbl; omega
          obtain ⟨l2, e1, e2, e3, e4, e5⟩ := ihn d c2 r2 _ l c' r hd hr2 hrl h
          refine ⟨y :: l2, by rw [e1]; simp, by simp [e2], ?_, ?_, ?_⟩
          · rw [bytesL, List.append_assoc, e3, h1]
          · rw [chkL, h2]
            simpa using e4
          · rw [sizedL]; exact ⟨h3, e5⟩
    intro d c bs x c' r hd hb hbl h
    rw [rdI] at h
    split at h
    · cases h
    · rename_i hc
      match hh : rdHead bs with
      | .error e => rw [hh] at h; cases h
      | .ok (k, n, r1) =>
        have hhd := head_back hb hh
        have hr1 : ∀ x ∈ r1, x < 256 := mem_right (a := k :: num n) (by rw [List.cons_append, hhd]; exact hb)
        have hrl : r1.length ≤ 65536 := by rw [← hhd] at hbl; simp at hbl; omega
        obtain ⟨hk2, hm63, hm64, _⟩ := head_is hh
        rw [hh] at h
        simp only at h
        split at h
        · rename_i hk0
          subst hk0
          simp only [Except.ok.injEq, Prod.mk.injEq] at h
          obtain ⟨rfl, rfl, rfl⟩ := h
          have hno : Item.no (.mk 0 (unzig n) noT []) = zig (unzig n) := rfl
          refine ⟨?_, ?_, ?_⟩
          · rw [Item.bytes, hno, zig_unzig, ← hhd]
            simp [sb_noT, bytesL]
          · have hf : Item.form (.mk 0 (unzig n) noT []) = true := by simp [Item.form, Item.kind, Item.s, Item.kids, noT]; rfl
            rw [chkI, hf, if_neg (by decide), if_neg (by omega)]; rfl
          · rw [Item.sized]
            have := unzig_ok hm64
            exact ⟨by omega, by omega, this.1, this.2, by show (0 : Nat) ≤ _; omega, by simp, trivial⟩
        · rename_i hk0
          split at h
          · rename_i hk1
            subst hk1
            split at h
            · cases h
            · rename_i hlen
              simp only [Except.ok.injEq, Prod.mk.injEq] at h
              obtain ⟨rfl, rfl, rfl⟩ := h
              have htk : ∀ x ∈ r1.take n, x < 256 := fun x hx => hr1 x (List.mem_of_mem_take hx)
              have hsz : (str (r1.take n)).size = n := by
                rw [← sb_length, sb_str htk, List.length_take]; omega
              have hno : Item.no (.mk 1 0 (str (r1.take n)) []) = n := by
                show (if (1 : Int) = 1 then (str (r1.take n)).size else _) = n
                rw [if_pos rfl, hsz]
              refine ⟨?_, ?_, ?_⟩
              · rw [Item.bytes, hno, sb_str htk, ← hhd]
                simp [bytesL]
              · have hf : Item.form (.mk 1 0 (str (r1.take n)) []) = true := rfl
                rw [chkI, hf, if_neg (by decide), if_neg (by omega)]; rfl
              · rw [Item.sized]
                exact ⟨by omega, by omega, by omega, by omega, by rw [hsz]; omega, by simp, trivial⟩
          · rename_i hk1
            obtain rfl : k = 2 := by omega
            match hq : rdL (rdI b) n (c + 1) r1 [] with
            | .error e => rw [hq] at h; cases h
            | .ok (l, c2, r2) =>
              rw [hq] at h
              simp only [Except.ok.injEq, Prod.mk.injEq] at h
              obtain ⟨rfl, rfl, rfl⟩ := h
              obtain ⟨l2, e1, e2, e3, e4, e5⟩ := hL n (d + 1) (c + 1) r1 [] l c2 r2 (by omega) hr1 hrl hq
              obtain rfl : l = l2 := by simpa using e1
              have hno : Item.no (.mk 2 0 noT l) = l.length := rfl
              refine ⟨?_, ?_, ?_⟩
              · rw [Item.bytes, hno, e2, ← hhd, sb_noT]
                simp [e3]
              · have hf : Item.form (.mk 2 0 noT l) = true := rfl
                rw [chkI, hf, if_neg (by decide), if_neg (by omega)]; exact e4
              · rw [Item.sized]
                have := hm63 (by decide)
                exact ⟨by omega, by omega, by omega, by omega, by show (0 : Nat) ≤ _; omega, by omega, e5⟩

theorem rdTop_back : ∀ (f c : Nat) (bs : List Nat) (acc l : List Item), (∀ x ∈ bs, x < 256) → bs.length ≤ 65536 → rdTop f c bs acc = .ok l → ∃ l2, l = acc ++ l2 ∧ bytesL l2 = bs ∧ (chkL 1 c l2).2 = 0 ∧ sizedL l2 := by
  intro f
  induction f with
  | zero => intro c bs acc l _ _ h; simp [rdTop] at h
  | succ f ih =>
    intro c bs acc l hb hbl h
    rw [rdTop] at h
    split at h
    · rename_i h0
      subst h0
      simp only [Except.ok.injEq] at h
      subst h
      exact ⟨[], by simp, rfl, rfl, trivial⟩
    · match hq : rdI 8 c bs with
      | .error e => rw [hq] at h; cases h
      | .ok (y, c2, r2) =>
        rw [hq] at h
        obtain ⟨h1, h2, h3⟩ := rdI_back 8 1 c bs y c2 r2 rfl hb hbl hq
        have hr2 : ∀ x ∈ r2, x < 256 := mem_right (a := y.bytes) (by rw [h1]; exact hb)
        have hrl : r2.length ≤ 65536 := by rw [← h1] at hbl; simp at hbl; omega
        obtain ⟨l2, e1, e2, e3, e4⟩ := ih c2 r2 _ l hr2 hrl h
        refine ⟨y :: l2, by rw [e1]; simp, ?_, ?_, ?_⟩
        · rw [bytesL, e2, h1]
        · rw [chkL, h2]
          simpa using e3
        · rw [sizedL]; exact ⟨h3, e4⟩

mutual
theorem len_nodes : ∀ l : List Item, l.length ≤ nodesL l
  | [] => by simp
  | x :: r => by
    have := len_nodes r
    have := nodes_pos x
    rw [nodesL, List.length_cons]; omega
theorem nodes_pos : ∀ x : Item, 1 ≤ x.nodes
  | .mk k n s l => by rw [Item.nodes]; omega
end

/-- What is decoded is encoded to the same bytes. -/
theorem dec_back {bs : List Nat} {l : List Item} (hb : ∀ x ∈ bs, x < 256) (h : decN bs = .ok l) : encN l = (bs, 0) ∧ sizedL l ∧ nodesL l ≤ 4096 := by
  unfold decN at h
  split at h
  · cases h
  · rename_i hl
    obtain ⟨l2, e1, e2, e3, e4⟩ := rdTop_back 4097 0 bs [] l hb (by omega) h
    obtain rfl : l = l2 := by simpa using e1
    refine ⟨?_, e4, ?_⟩
    · unfold encN
      rw [if_neg (by simpa using e3), e2, if_neg hl]
    · have := (chkL_ok 1 0 l e3).2.2
      omega

theorem decR_fits {bs : List Nat} (hb : ∀ x ∈ bs, x < 256) : sizedL (decR bs).1 ∧ nodesL (decR bs).1 ≤ 4096 := by
  unfold decR
  match h : decN bs with
  | .error k => exact ⟨trivial, by simp [decOf, nodesL]⟩
  | .ok l => have := dec_back hb h; exact ⟨this.2.1, this.2.2⟩

end Go.Proofs.Ytffehnojcajhiaa.Wire
