/-
  Contracts of the document's answer for layer 10: Join, Map and Test.
-/
import Derived.Test.YtmfndimejnbgkaaFoldWalk
namespace Go.Proofs.Ytmfndimejnbgkaa.Fold
open Go Go.RowKit Go.Proofs.Ytmfndimejnbgkaa.Law

theorem u32_lt (n : Nat) (h : n < 4294967296) : IntKind.u32.wrap (n : Int) = (n : Int) := by rw [u32_wrap, Nat.mod_eq_of_lt h]

end Go.Proofs.Ytmfndimejnbgkaa.Fold
