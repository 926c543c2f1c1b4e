/-
  DERIVED. GIVEN WITH THE SEED: THE CARDS: each row of YtbphckblbbbakaaDoorRows.lean that lists a variable, with what it lists TIED to the program's text (the seventh form; the later family's looks); each row that meets fmt, with fmt's text TOLD by the authors' own Lean function (tested against real Go, not proved from fmt's source: count such statements apart). THE CARD IS WHAT COUNTS. Prove the row's statement (the work); the ties are given (YtbphckblbbbakaaDoorTie.lean); close each card by the builder's one call (the guide's Derived/Test/ToyasCard.lean, 'card_holds'). Laid BY PROGRAM, IN A SANDBOX (cutbox-door.mjs). By AI agents, Wed Nov 11 2026. No macro, syntax, notation, axiom, sorry.
-/
import Derived.Test.YtbphckblbbbakaaDoorRows
import GoSem.ClaimSeven
namespace Go.Proofs.YtbphckblbbbakaaDoor
namespace Rows

/-- THE TIED CARD OF 'gimletlaw18.FmtTells'. -/
def fmtTellsCard : Claim7 := { stood := { row := fmtTellsRow, standIns := [], harness := (true, "6e813d11ed4261d374731e03baa0b1cda1c60101c5d92033ea8ab7b64e81d4ed"), looks := false }, kinds := [], alts := [], laidByText := true, laidKinds := [.data, .data, .data], laidTests := true, laidLooks := .later }
def FmtTellsCardSaid : Prop := Claim7.holds Tryd.pinned (.plain (OpenSpec.ofChange fmtTellsSpec)) fmtTellsCard

/-- THE TIED CARD OF 'gimletlaw18.FmtBack'. -/
def fmtBackCard : Claim7 := { stood := { row := fmtBackRow, standIns := [], harness := (true, "6e813d11ed4261d374731e03baa0b1cda1c60101c5d92033ea8ab7b64e81d4ed"), looks := false }, kinds := [], alts := [], laidByText := true, laidKinds := [.data, .data, .data], laidTests := true, laidLooks := .later }
def FmtBackCardSaid : Prop := Claim7.holds Tryd.pinned (.plain (OpenSpec.ofChange fmtBackSpec)) fmtBackCard

/-- THE TIED CARD OF 'gimletlaw18.FmtAgain'. -/
def fmtAgainCard : Claim7 := { stood := { row := fmtAgainRow, standIns := [], harness := (true, "6e813d11ed4261d374731e03baa0b1cda1c60101c5d92033ea8ab7b64e81d4ed"), looks := false }, kinds := [], alts := [], laidByText := true, laidKinds := [.data, .data, .data], laidTests := true, laidLooks := .later }
def FmtAgainCardSaid : Prop := Claim7.holds Tryd.pinned (.plain (OpenSpec.ofChange fmtAgainSpec)) fmtAgainCard

/-- THE SECOND FORM's CARD OF 'gimletlaw18.FmtTells'. -/
def fmtTellsUptoCard : Claim7 := { stood := { row := fmtTellsUptoRow, standIns := [], harness := (true, "6e813d11ed4261d374731e03baa0b1cda1c60101c5d92033ea8ab7b64e81d4ed"), looks := false }, kinds := [], alts := [], laidByText := true, laidKinds := [.data, .data, .data], laidTests := true, laidLooks := .later }
def FmtTellsUptoCardSaid : Prop := Claim7.holds Tryd.pinned (.plain (OpenSpec.upto fmtTellsSpec)) fmtTellsUptoCard

/-- THE SECOND FORM's CARD OF 'gimletlaw18.FmtBack'. -/
def fmtBackUptoCard : Claim7 := { stood := { row := fmtBackUptoRow, standIns := [], harness := (true, "6e813d11ed4261d374731e03baa0b1cda1c60101c5d92033ea8ab7b64e81d4ed"), looks := false }, kinds := [], alts := [], laidByText := true, laidKinds := [.data, .data, .data], laidTests := true, laidLooks := .later }
def FmtBackUptoCardSaid : Prop := Claim7.holds Tryd.pinned (.plain (OpenSpec.upto fmtBackSpec)) fmtBackUptoCard

/-- THE SECOND FORM's CARD OF 'gimletlaw18.FmtAgain'. -/
def fmtAgainUptoCard : Claim7 := { stood := { row := fmtAgainUptoRow, standIns := [], harness := (true, "6e813d11ed4261d374731e03baa0b1cda1c60101c5d92033ea8ab7b64e81d4ed"), looks := false }, kinds := [], alts := [], laidByText := true, laidKinds := [.data, .data, .data], laidTests := true, laidLooks := .later }
def FmtAgainUptoCardSaid : Prop := Claim7.holds Tryd.pinned (.plain (OpenSpec.upto fmtAgainSpec)) fmtAgainUptoCard
end Rows
end Go.Proofs.YtbphckblbbbakaaDoor
