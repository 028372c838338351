/-
  DERIVED. GIVEN WITH THE SEED: THE CARDS: each row of YtdikmlnpclklnaaDoorRows.lean that lists a variable, with what it lists TIED to the program's text (the seventh form; the later family's looks); each row that meets fmt, with fmt's text TOLD by the authors' own Lean function (tested against real Go, not proved from fmt's source: count such statements apart). THE CARD IS WHAT COUNTS. Prove the row's statement (the work); the ties are given (YtdikmlnpclklnaaDoorTie.lean); close each card by the builder's one call (the guide's Derived/Test/ToyasCard.lean, 'card_holds'). Laid BY PROGRAM, IN A SANDBOX (cutbox-door.mjs). By AI agents, Wed Nov 11 2026. No macro, syntax, notation, axiom, sorry.
-/
import Derived.Test.YtdikmlnpclklnaaDoorRows
import GoSem.ClaimSeven
namespace Go.Proofs.YtdikmlnpclklnaaDoor
namespace Rows

/-- THE TIED CARD OF 'millracelaw07.SlotNames'. -/
def slotNamesCard : Claim7 := { stood := { row := slotNamesRow, standIns := [], harness := (true, "f098890ab2032f09970b5e72d78e0ae54668fa9467300c5e0ca4551aa88a60d2"), looks := false }, kinds := [], alts := [], laidByText := true, laidKinds := [.data], laidTests := true, laidLooks := .later }
def SlotNamesCardSaid : Prop := Claim7.holds Tryd.pinned (.plain (OpenSpec.ofChange slotNamesSpec)) slotNamesCard

/-- THE TIED CARD OF 'millracelaw07.SlotLast'. -/
def slotLastCard : Claim7 := { stood := { row := slotLastRow, standIns := [], harness := (true, "f098890ab2032f09970b5e72d78e0ae54668fa9467300c5e0ca4551aa88a60d2"), looks := false }, kinds := [], alts := [], laidByText := true, laidKinds := [.data], laidTests := true, laidLooks := .later }
def SlotLastCardSaid : Prop := Claim7.holds Tryd.pinned (.plain (OpenSpec.ofChange slotLastSpec)) slotLastCard

/-- THE SECOND FORM's CARD OF 'millracelaw07.SlotNames'. -/
def slotNamesUptoCard : Claim7 := { stood := { row := slotNamesUptoRow, standIns := [], harness := (true, "f098890ab2032f09970b5e72d78e0ae54668fa9467300c5e0ca4551aa88a60d2"), looks := false }, kinds := [], alts := [], laidByText := true, laidKinds := [.data], laidTests := true, laidLooks := .later }
def SlotNamesUptoCardSaid : Prop := Claim7.holds Tryd.pinned (.plain (OpenSpec.upto slotNamesSpec)) slotNamesUptoCard

/-- THE SECOND FORM's CARD OF 'millracelaw07.SlotLast'. -/
def slotLastUptoCard : Claim7 := { stood := { row := slotLastUptoRow, standIns := [], harness := (true, "f098890ab2032f09970b5e72d78e0ae54668fa9467300c5e0ca4551aa88a60d2"), looks := false }, kinds := [], alts := [], laidByText := true, laidKinds := [.data], laidTests := true, laidLooks := .later }
def SlotLastUptoCardSaid : Prop := Claim7.holds Tryd.pinned (.plain (OpenSpec.upto slotLastSpec)) slotLastUptoCard
end Rows
end Go.Proofs.YtdikmlnpclklnaaDoor
