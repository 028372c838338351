/-
  How many bytes the texts of items have, by the document's own count, which stops above the limit.
-/
import Derived.Test.YtdikmlnpclklnaaGreatDoorWireApt
import Derived.IntWalk
import Derived.BigQuiet
import Derived.Deep.QuietTactic
namespace Go.Proofs.YtdikmlnpclklnaaGreatDoor.Wire
open Go Go.RowKit Go.Proofs.YtdikmlnpclklnaaGreatDoor.Law

theorem ret_nat {k : IntKind} {a : Int} {b : Nat} (h : a = (b : Nat)) : Ending.returned (.int k a) = .returned (.int k (b : Nat)) := by rw [h]

mutual
/-- What an item adds to the count. -/
def Item.siz : Item → Nat
  | .mk _ _ s l => s.size + sizF 0 l
/-- The count, from n on: it stops above the limit. -/
def sizF (n : Nat) : List Item → Nat
  | [] => n
  | x :: r => if n ≤ 65536 then sizF (n + x.siz) r else n
end
theorem siz_eq (x : Item) : x.siz = x.s.size + sizF 0 x.kids := by cases x; rfl
theorem sizF_nil (n : Nat) : sizF n [] = n := by rw [sizF]
theorem sizF_cons (n : Nat) (x : Item) (r : List Item) : sizF n (x :: r) = if n ≤ 65536 then sizF (n + x.siz) r else n := by rw [sizF]
theorem sizF_big (n : Nat) (l : List Item) (h : 65536 < n) : sizF n l = n := by
  cases l with
  | nil => rw [sizF]
  | cons x r => rw [sizF, if_neg (by omega)]
mutual
theorem siz_le : ∀ x : Item, x.siz ≤ x.strs
  | .mk k n s l => by
    have := sizF_le 0 l
    rw [Item.siz, Item.strs]; omega
theorem sizF_le (n : Nat) : ∀ l : List Item, sizF n l ≤ n + strsL l
  | [] => by rw [sizF, strsL]; omega
  | x :: r => by
    have h1 := siz_le x
    have h2 := sizF_le (n + x.siz) r
    rw [sizF, strsL]
    split <;> omega
end
theorem sizF_ge (n : Nat) : ∀ l : List Item, n ≤ sizF n l
  | [] => by rw [sizF]; exact Nat.le_refl _
  | x :: r => by
    have h2 := sizF_ge (n + x.siz) r
    rw [sizF]
    split <;> omega
mutual
theorem siz_is : ∀ x : Item, x.siz ≤ 65536 → x.siz = x.strs
  | .mk k n s l => by
    intro h
    rw [Item.siz] at h ⊢
    have := sizF_is 0 l (by omega)
    rw [Item.strs]; omega
theorem sizF_is (n : Nat) : ∀ l : List Item, sizF n l ≤ 65536 → sizF n l = n + strsL l
  | [] => by intro _; rw [sizF, strsL]; rfl
  | x :: r => by
    intro h
    rw [sizF] at h ⊢
    split at h
    · rename_i hn
      have h0 := sizF_ge (n + x.siz) r
      have h1 := siz_is x (by omega)
      have h2 := sizF_is (n + x.siz) r h
      rw [if_pos hn, h2, strsL]; omega
    · omega
end

set_option maxRecDepth 100000 in
set_option maxHeartbeats 4000000 in
theorem size_calls : ∀ (m : Nat) (l : List Item), nodesL l < m → l.length ≤ 9223372036854775807 → strsL l ≤ 4611686018427387904 → sizedL l → ∀ (sv : Value) (S : Nat → Prop) (w : World), Items S w sv l →
    Calls Tryz.prog 113 #[sv] w fun e W => e = .returned (.int .i64 (sizF 0 l : Nat)) ∧ ∃ d, W = w.drewN d := by
  intro m
  induction m with
  | zero => exact fun _ h => absurd h (Nat.not_lt_zero _)
  | succ m ih =>
    intro l hm hlong hst hsz sv S w hI
    obtain ⟨A, cap, rfl, hcap⟩ := hI.form
    obtain ⟨len, hlen⟩ : ∃ len, l.length = len := ⟨_, rfl⟩
    obtain ⟨R, hR⟩ : ∃ R, sizF 0 l = R := ⟨_, rfl⟩
    have hRle : R ≤ strsL l := by have := sizF_le 0 l; omega
    rw [hR]
    rw [hlen] at hI hlong hcap ⊢
    have HI := Lib.hid hI
    have HL := Lib.hid hlen
    have HM := Lib.hid hm
    have HS := Lib.hid hsz
    have HR := Lib.hid hR
    have HST := Lib.hid hst
    have hRb : R ≤ 4611686018427387904 := by omega
    clear hI hlen hm hsz hR hst hRle
    go_enter Tryz.func113, Tryz.ntmps113
    go_wp2_with fail
    go_loopw [3, 4] (fun z i wr => ∃ k n : Nat, i = .int .i64 k ∧ z = .int .i64 (n : Nat) ∧ k ≤ len ∧ sizF n (l.drop k) = R ∧ ∃ d, wr = w.drewN d) (fun _ i _ => len - (intOf i).toNat)
    case atStart => exact ⟨0, 0, rfl, rfl, Nat.zero_le _, by rw [List.drop_zero, HR.out], 0, rfl⟩
    case round =>
      obtain ⟨k, n, rfl, rfl, hk, h1, hdr⟩ := hrel
      have HIR : Hid (Items S wr (.slice A len cap) l) := by
        obtain ⟨dr, rfl⟩ := hdr
        exact Items.keep (W := w) (W' := w.drewN dr) (fun _ _ => rfl) (fun _ h => h) HI.out
      have HDR := Lib.hid hdr
      clear hdr
      have H1 := Lib.hid h1
      have hn : n ≤ R := by have := sizF_ge n (l.drop k); omega
      clear h1
      by_cases hlt : k < len
      · by_cases hbig : n ≤ 65536
        · obtain ⟨x, hx⟩ : ∃ x, l[k]? = some x := ⟨_, List.getElem?_eq_getElem (by rw [HL.out]; exact hlt)⟩
          obtain ⟨bk, off, rfl, hbk, hcells⟩ := HIR.out.at (by omega)
          obtain ⟨u, ⟨c0, c1, c2, c3⟩, hkid⟩ := hcells k x hx
          obtain ⟨A', cap', rfl, hcap'⟩ := hkid.form
          obtain ⟨hk1, hk2, hn1, hn2, hs1, hl1⟩ := sized_of (sizedL_get hx HS.out)
          have h1 := H1.out
          rw [drop_get hx, sizF_cons, if_pos hbig, siz_eq] at h1
          have hsub : strsL x.kids ≤ strsL l := by
            have : ∀ (l : List Item) (k : Nat), l[k]? = some x → strsL x.kids ≤ strsL l := by
              intro l
              induction l with
              | nil => intro k h; simp at h
              | cons y r ih =>
                intro k h
                rw [strsL]
                cases k with
                | zero => simp at h; subst h; cases y; rw [Item.strs]; simp only [Item.kids]; omega
                | succ k => have := ih k (by simpa using h); omega
            exact this l k hx
          have cR := fun d => Calls.quiet_of (ih x.kids (by have := nodesL_kids hx; have := HM.out; omega) hl1 (by have := HST.out; omega) (sized_kids (sizedL_get hx HS.out)) (.slice A' x.kids.length cap') S (wr.drewN d) (Items.keep (W := wr) (W' := wr.drewN d) (fun _ _ => rfl) (fun _ h => h) hkid))
          have hn2 := sizF_ge (n + (x.s.size + sizF 0 x.kids)) (l.drop (k + 1))
          obtain ⟨sl, hsl⟩ : ∃ sl, x.s.size = sl := ⟨_, rfl⟩
          obtain ⟨kl, hkl⟩ : ∃ kl, x.kids.length = kl := ⟨_, rfl⟩
          obtain ⟨sk, hsk⟩ : ∃ sk, sizF 0 x.kids = sk := ⟨_, rfl⟩
          rw [hsk] at cR hn2 h1
          rw [hsl] at hn2 h1
          rw [hkl] at cR c3 hl1
          have hbound : n + (sl + sk) ≤ 4611686018427387904 := by omega
          have hw1 : IntKind.i64.wrap ((n : Int) + (sl : Int)) = (n : Int) + (sl : Int) := IntWalk.i64_in _ (by omega)
          have hw2 : IntKind.i64.wrap ((n : Int) + (sl : Int) + (sk : Int)) = (n : Int) + (sl : Int) + (sk : Int) := IntWalk.i64_in _ (by omega)
          have hbI : (n : Int) ≤ 65536 := by omega
          have CR := Lib.hid cR
          have HN := Lib.hid h1
          have HSL := Lib.hid hsl
          clear hcells hx hkid cR h1 hsub hsk hkl hn2
          go_wp2_with fail
          go_quiet ((exact CR.out _))
          clear hw1 hw2 hsl c0 c1 c2 c3
          go_wp2_with fail
          go_roundw
          case rel => exact ⟨k + 1, n + (sl + sk), by go_num, by congr 1; omega, by omega, HN.out, by obtain ⟨dr, h⟩ := HDR.out; exact ⟨_, by rw [h, World.drewN_drewN]⟩⟩
          case measure => simp [intOf]; omega
        · have hbI : ¬ (n : Int) ≤ 65536 := by omega
          go_wp2_with fail
          go_ret
          have := H1.out
          rw [sizF_big _ _ (by omega)] at this
          exact ⟨ret_nat (by rw [this]), HDR.out⟩
      · obtain rfl : k = len := by omega
        have hd : l.drop k = [] := List.drop_of_length_le (by rw [HL.out]; exact Nat.le_refl _)
        have HD := Lib.hid hd
        clear hd
        go_wp2_with fail
        all_goals
          go_ret
          have := H1.out
          rw [HD.out, sizF_nil] at this
          exact ⟨ret_nat (by rw [this]), HDR.out⟩

end Go.Proofs.YtdikmlnpclklnaaGreatDoor.Wire
