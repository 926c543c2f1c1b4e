/-
  DERIVED. GIVEN WITH THE SEED: THE CARDS: each row of YtmacpmblodhcpaaGreatDoorRows.lean that lists a variable, with what it lists TIED to the program's text (the seventh form; the later family's looks); each row that meets fmt, with fmt's text TOLD by the authors' own Lean function (tested against real Go, not proved from fmt's source: count such statements apart). THE CARD IS WHAT COUNTS. Prove the row's statement (the work); the ties are given (YtmacpmblodhcpaaGreatDoorTie.lean); close each card by the builder's one call (the guide's Derived/Test/ToyasCard.lean, 'card_holds'). Laid BY PROGRAM, IN A SANDBOX (cutbox-door.mjs). By AI agents, Wed Nov 11 2026. No macro, syntax, notation, axiom, sorry.
-/
import Derived.Test.YtmacpmblodhcpaaGreatDoorRows
import GoSem.ClaimSeven
namespace Go.Proofs.YtmacpmblodhcpaaGreatDoor
namespace Rows

/-- THE TIED CARD OF 'gimletlaw15.ShowBack'. -/
def showBackCard : Claim7 := { stood := { row := showBackRow, standIns := [], harness := (true, "0b14b1e7891513a005332d515165d8773ecaaafd2dcfb3e3ccda27e83b91e4a8"), looks := false }, kinds := [], alts := [], laidByText := true, laidKinds := [.data, .data, .data], laidTests := true, laidLooks := .later }
def ShowBackCardSaid : Prop := Claim7.holds Tryz.pinned (.plain (OpenSpec.ofChange showBackSpec)) showBackCard

/-- THE TIED CARD OF 'gimletlaw15.ShowRead'. -/
def showReadCard : Claim7 := { stood := { row := showReadRow, standIns := [], harness := (true, "0b14b1e7891513a005332d515165d8773ecaaafd2dcfb3e3ccda27e83b91e4a8"), looks := false }, kinds := [], alts := [], laidByText := true, laidKinds := [.data, .data, .data], laidTests := true, laidLooks := .later }
def ShowReadCardSaid : Prop := Claim7.holds Tryz.pinned (.plain (OpenSpec.ofChange showReadSpec)) showReadCard

/-- THE TIED CARD OF 'gimletlaw15.ShowUnlike'. -/
def showUnlikeCard : Claim7 := { stood := { row := showUnlikeRow, standIns := [], harness := (true, "0b14b1e7891513a005332d515165d8773ecaaafd2dcfb3e3ccda27e83b91e4a8"), looks := false }, kinds := [], alts := [], laidByText := true, laidKinds := [.data, .data, .data], laidTests := true, laidLooks := .later }
def ShowUnlikeCardSaid : Prop := Claim7.holds Tryz.pinned (.plain (OpenSpec.ofChange showUnlikeSpec)) showUnlikeCard

/-- THE TIED CARD OF 'gimletlaw15.ShowChars'. -/
def showCharsCard : Claim7 := { stood := { row := showCharsRow, standIns := [], harness := (true, "0b14b1e7891513a005332d515165d8773ecaaafd2dcfb3e3ccda27e83b91e4a8"), looks := false }, kinds := [], alts := [], laidByText := true, laidKinds := [.data, .data, .data], laidTests := true, laidLooks := .later }
def ShowCharsCardSaid : Prop := Claim7.holds Tryz.pinned (.plain (OpenSpec.ofChange showCharsSpec)) showCharsCard

/-- THE SECOND FORM's CARD OF 'gimletlaw15.ShowBack'. -/
def showBackUptoCard : Claim7 := { stood := { row := showBackUptoRow, standIns := [], harness := (true, "0b14b1e7891513a005332d515165d8773ecaaafd2dcfb3e3ccda27e83b91e4a8"), looks := false }, kinds := [], alts := [], laidByText := true, laidKinds := [.data, .data, .data], laidTests := true, laidLooks := .later }
def ShowBackUptoCardSaid : Prop := Claim7.holds Tryz.pinned (.plain (OpenSpec.upto showBackSpec)) showBackUptoCard

/-- THE SECOND FORM's CARD OF 'gimletlaw15.ShowRead'. -/
def showReadUptoCard : Claim7 := { stood := { row := showReadUptoRow, standIns := [], harness := (true, "0b14b1e7891513a005332d515165d8773ecaaafd2dcfb3e3ccda27e83b91e4a8"), looks := false }, kinds := [], alts := [], laidByText := true, laidKinds := [.data, .data, .data], laidTests := true, laidLooks := .later }
def ShowReadUptoCardSaid : Prop := Claim7.holds Tryz.pinned (.plain (OpenSpec.upto showReadSpec)) showReadUptoCard

/-- THE SECOND FORM's CARD OF 'gimletlaw15.ShowUnlike'. -/
def showUnlikeUptoCard : Claim7 := { stood := { row := showUnlikeUptoRow, standIns := [], harness := (true, "0b14b1e7891513a005332d515165d8773ecaaafd2dcfb3e3ccda27e83b91e4a8"), looks := false }, kinds := [], alts := [], laidByText := true, laidKinds := [.data, .data, .data], laidTests := true, laidLooks := .later }
def ShowUnlikeUptoCardSaid : Prop := Claim7.holds Tryz.pinned (.plain (OpenSpec.upto showUnlikeSpec)) showUnlikeUptoCard

/-- THE SECOND FORM's CARD OF 'gimletlaw15.ShowChars'. -/
def showCharsUptoCard : Claim7 := { stood := { row := showCharsUptoRow, standIns := [], harness := (true, "0b14b1e7891513a005332d515165d8773ecaaafd2dcfb3e3ccda27e83b91e4a8"), looks := false }, kinds := [], alts := [], laidByText := true, laidKinds := [.data, .data, .data], laidTests := true, laidLooks := .later }
def ShowCharsUptoCardSaid : Prop := Claim7.holds Tryz.pinned (.plain (OpenSpec.upto showCharsSpec)) showCharsUptoCard
end Rows
end Go.Proofs.YtmacpmblodhcpaaGreatDoor
