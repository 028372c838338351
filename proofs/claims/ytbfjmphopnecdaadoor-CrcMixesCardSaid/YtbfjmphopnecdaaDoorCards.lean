/-
  DERIVED. GIVEN WITH THE SEED: THE CARDS: each row of YtbfjmphopnecdaaDoorRows.lean that lists a variable, with what it lists TIED to the program's text (the seventh form; the later family's looks); each row that meets fmt, with fmt's text TOLD by the authors' own Lean function (tested against real Go, not proved from fmt's source: count such statements apart). THE CARD IS WHAT COUNTS. Prove the row's statement (the work); the ties are given (YtbfjmphopnecdaaDoorTie.lean); close each card by the builder's one call (the guide's Derived/Test/ToyasCard.lean, 'card_holds'). Laid BY PROGRAM, IN A SANDBOX (cutbox-door.mjs). By AI agents, Wed Nov 11 2026. No macro, syntax, notation, axiom, sorry.
-/
import Derived.Test.YtbfjmphopnecdaaDoorRows
import GoSem.ClaimSeven
namespace Go.Proofs.YtbfjmphopnecdaaDoor
namespace Rows

/-- THE TIED CARD OF 'millracelaw01.CrcSums'. -/
def crcSumsCard : Claim7 := { stood := { row := crcSumsRow, standIns := [], harness := (true, "b3a3f22d5eab6acdcb4d7ab0666a67b56c62227a2196ef1e7461399c93bf3f59"), looks := false }, kinds := [], alts := [], laidByText := true, laidKinds := [.data], laidTests := true, laidLooks := .later }
def CrcSumsCardSaid : Prop := Claim7.holds Tryd.pinned (.plain (OpenSpec.ofChange crcSumsSpec)) crcSumsCard

/-- THE TIED CARD OF 'millracelaw01.CrcExtends'. -/
def crcExtendsCard : Claim7 := { stood := { row := crcExtendsRow, standIns := [], harness := (true, "b3a3f22d5eab6acdcb4d7ab0666a67b56c62227a2196ef1e7461399c93bf3f59"), looks := false }, kinds := [], alts := [], laidByText := true, laidKinds := [.data], laidTests := true, laidLooks := .later }
def CrcExtendsCardSaid : Prop := Claim7.holds Tryd.pinned (.plain (OpenSpec.ofChange crcExtendsSpec)) crcExtendsCard

/-- THE TIED CARD OF 'millracelaw01.CrcFlips'. -/
def crcFlipsCard : Claim7 := { stood := { row := crcFlipsRow, standIns := [], harness := (true, "b3a3f22d5eab6acdcb4d7ab0666a67b56c62227a2196ef1e7461399c93bf3f59"), looks := false }, kinds := [], alts := [], laidByText := true, laidKinds := [.data], laidTests := true, laidLooks := .later }
def CrcFlipsCardSaid : Prop := Claim7.holds Tryd.pinned (.plain (OpenSpec.ofChange crcFlipsSpec)) crcFlipsCard

/-- THE TIED CARD OF 'millracelaw01.CrcMixes'. -/
def crcMixesCard : Claim7 := { stood := { row := crcMixesRow, standIns := [], harness := (true, "b3a3f22d5eab6acdcb4d7ab0666a67b56c62227a2196ef1e7461399c93bf3f59"), looks := false }, kinds := [], alts := [], laidByText := true, laidKinds := [.data], laidTests := true, laidLooks := .later }
def CrcMixesCardSaid : Prop := Claim7.holds Tryd.pinned (.plain (OpenSpec.ofChange crcMixesSpec)) crcMixesCard

/-- THE TIED CARD OF 'millracelaw01.CrcKeeps'. -/
def crcKeepsCard : Claim7 := { stood := { row := crcKeepsRow, standIns := [], harness := (true, "b3a3f22d5eab6acdcb4d7ab0666a67b56c62227a2196ef1e7461399c93bf3f59"), looks := false }, kinds := [], alts := [], laidByText := true, laidKinds := [.data], laidTests := true, laidLooks := .later }
def CrcKeepsCardSaid : Prop := Claim7.holds Tryd.pinned (.plain (OpenSpec.ofChange crcKeepsSpec)) crcKeepsCard

/-- THE TIED CARD OF 'millracelaw01.CrcSplits'. -/
def crcSplitsCard : Claim7 := { stood := { row := crcSplitsRow, standIns := [], harness := (true, "b3a3f22d5eab6acdcb4d7ab0666a67b56c62227a2196ef1e7461399c93bf3f59"), looks := false }, kinds := [], alts := [], laidByText := true, laidKinds := [.data], laidTests := true, laidLooks := .later }
def CrcSplitsCardSaid : Prop := Claim7.holds Tryd.pinned (.plain (OpenSpec.ofChange crcSplitsSpec)) crcSplitsCard

/-- THE SECOND FORM's CARD OF 'millracelaw01.CrcSums'. -/
def crcSumsUptoCard : Claim7 := { stood := { row := crcSumsUptoRow, standIns := [], harness := (true, "b3a3f22d5eab6acdcb4d7ab0666a67b56c62227a2196ef1e7461399c93bf3f59"), looks := false }, kinds := [], alts := [], laidByText := true, laidKinds := [.data], laidTests := true, laidLooks := .later }
def CrcSumsUptoCardSaid : Prop := Claim7.holds Tryd.pinned (.plain (OpenSpec.upto crcSumsSpec)) crcSumsUptoCard

/-- THE SECOND FORM's CARD OF 'millracelaw01.CrcExtends'. -/
def crcExtendsUptoCard : Claim7 := { stood := { row := crcExtendsUptoRow, standIns := [], harness := (true, "b3a3f22d5eab6acdcb4d7ab0666a67b56c62227a2196ef1e7461399c93bf3f59"), looks := false }, kinds := [], alts := [], laidByText := true, laidKinds := [.data], laidTests := true, laidLooks := .later }
def CrcExtendsUptoCardSaid : Prop := Claim7.holds Tryd.pinned (.plain (OpenSpec.upto crcExtendsSpec)) crcExtendsUptoCard

/-- THE SECOND FORM's CARD OF 'millracelaw01.CrcFlips'. -/
def crcFlipsUptoCard : Claim7 := { stood := { row := crcFlipsUptoRow, standIns := [], harness := (true, "b3a3f22d5eab6acdcb4d7ab0666a67b56c62227a2196ef1e7461399c93bf3f59"), looks := false }, kinds := [], alts := [], laidByText := true, laidKinds := [.data], laidTests := true, laidLooks := .later }
def CrcFlipsUptoCardSaid : Prop := Claim7.holds Tryd.pinned (.plain (OpenSpec.upto crcFlipsSpec)) crcFlipsUptoCard

/-- THE SECOND FORM's CARD OF 'millracelaw01.CrcMixes'. -/
def crcMixesUptoCard : Claim7 := { stood := { row := crcMixesUptoRow, standIns := [], harness := (true, "b3a3f22d5eab6acdcb4d7ab0666a67b56c62227a2196ef1e7461399c93bf3f59"), looks := false }, kinds := [], alts := [], laidByText := true, laidKinds := [.data], laidTests := true, laidLooks := .later }
def CrcMixesUptoCardSaid : Prop := Claim7.holds Tryd.pinned (.plain (OpenSpec.upto crcMixesSpec)) crcMixesUptoCard

/-- THE SECOND FORM's CARD OF 'millracelaw01.CrcKeeps'. -/
def crcKeepsUptoCard : Claim7 := { stood := { row := crcKeepsUptoRow, standIns := [], harness := (true, "b3a3f22d5eab6acdcb4d7ab0666a67b56c62227a2196ef1e7461399c93bf3f59"), looks := false }, kinds := [], alts := [], laidByText := true, laidKinds := [.data], laidTests := true, laidLooks := .later }
def CrcKeepsUptoCardSaid : Prop := Claim7.holds Tryd.pinned (.plain (OpenSpec.upto crcKeepsSpec)) crcKeepsUptoCard

/-- THE SECOND FORM's CARD OF 'millracelaw01.CrcSplits'. -/
def crcSplitsUptoCard : Claim7 := { stood := { row := crcSplitsUptoRow, standIns := [], harness := (true, "b3a3f22d5eab6acdcb4d7ab0666a67b56c62227a2196ef1e7461399c93bf3f59"), looks := false }, kinds := [], alts := [], laidByText := true, laidKinds := [.data], laidTests := true, laidLooks := .later }
def CrcSplitsUptoCardSaid : Prop := Claim7.holds Tryd.pinned (.plain (OpenSpec.upto crcSplitsSpec)) crcSplitsUptoCard
end Rows
end Go.Proofs.YtbfjmphopnecdaaDoor
