/-
  DERIVED. GIVEN WITH THE SEED: THE CARDS: each row of YtmjadcjpgcbalaaDoorRows.lean that lists a variable, with what it lists TIED to the program's text (the seventh form; the later family's looks); each row that meets fmt, with fmt's text TOLD by the authors' own Lean function (tested against real Go, not proved from fmt's source: count such statements apart). THE CARD IS WHAT COUNTS. Prove the row's statement (the work); the ties are given (YtmjadcjpgcbalaaDoorTie.lean); close each card by the builder's one call (the guide's Derived/Test/ToyasCard.lean, 'card_holds'). Laid BY PROGRAM, IN A SANDBOX (cutbox-door.mjs). By AI agents, Wed Nov 11 2026. No macro, syntax, notation, axiom, sorry.
-/
import Derived.Test.YtmjadcjpgcbalaaDoorRows
import GoSem.ClaimSeven
namespace Go.Proofs.YtmjadcjpgcbalaaDoor
namespace Rows

/-- THE TIED CARD OF 'gimletlaw23.VarsSet'. -/
def varsSetCard : Claim7 := { stood := { row := varsSetRow, standIns := [], harness := (true, "ad88b18fa5cecbf30a26213c9b87035bcf4c1f531589068041e55abbb04c666c"), looks := false }, kinds := [], alts := [], laidByText := true, laidKinds := [.data, .data, .data], laidTests := true, laidLooks := .later }
def VarsSetCardSaid : Prop := Claim7.holds Tryd.pinned (.plain (OpenSpec.ofChange varsSetSpec)) varsSetCard

/-- THE TIED CARD OF 'gimletlaw23.VarsMany'. -/
def varsManyCard : Claim7 := { stood := { row := varsManyRow, standIns := [], harness := (true, "ad88b18fa5cecbf30a26213c9b87035bcf4c1f531589068041e55abbb04c666c"), looks := false }, kinds := [], alts := [], laidByText := true, laidKinds := [.data, .data, .data], laidTests := true, laidLooks := .later }
def VarsManyCardSaid : Prop := Claim7.holds Tryd.pinned (.plain (OpenSpec.ofChange varsManySpec)) varsManyCard

/-- THE TIED CARD OF 'gimletlaw23.VarsPlace'. -/
def varsPlaceCard : Claim7 := { stood := { row := varsPlaceRow, standIns := [], harness := (true, "ad88b18fa5cecbf30a26213c9b87035bcf4c1f531589068041e55abbb04c666c"), looks := false }, kinds := [], alts := [], laidByText := true, laidKinds := [.data, .data, .data], laidTests := true, laidLooks := .later }
def VarsPlaceCardSaid : Prop := Claim7.holds Tryd.pinned (.plain (OpenSpec.ofChange varsPlaceSpec)) varsPlaceCard

/-- THE TIED CARD OF 'gimletlaw23.VarsAhead'. -/
def varsAheadCard : Claim7 := { stood := { row := varsAheadRow, standIns := [], harness := (true, "ad88b18fa5cecbf30a26213c9b87035bcf4c1f531589068041e55abbb04c666c"), looks := false }, kinds := [], alts := [], laidByText := true, laidKinds := [.data, .data, .data], laidTests := true, laidLooks := .later }
def VarsAheadCardSaid : Prop := Claim7.holds Tryd.pinned (.plain (OpenSpec.ofChange varsAheadSpec)) varsAheadCard

/-- THE TIED CARD OF 'gimletlaw23.VarsWord'. -/
def varsWordCard : Claim7 := { stood := { row := varsWordRow, standIns := [], harness := (true, "ad88b18fa5cecbf30a26213c9b87035bcf4c1f531589068041e55abbb04c666c"), looks := false }, kinds := [], alts := [], laidByText := true, laidKinds := [.data, .data, .data], laidTests := true, laidLooks := .later }
def VarsWordCardSaid : Prop := Claim7.holds Tryd.pinned (.plain (OpenSpec.ofChange varsWordSpec)) varsWordCard

/-- THE TIED CARD OF 'gimletlaw23.VarsNil'. -/
def varsNilCard : Claim7 := { stood := { row := varsNilRow, standIns := [], harness := (true, "ad88b18fa5cecbf30a26213c9b87035bcf4c1f531589068041e55abbb04c666c"), looks := false }, kinds := [], alts := [], laidByText := true, laidKinds := [.data, .data, .data], laidTests := true, laidLooks := .later }
def VarsNilCardSaid : Prop := Claim7.holds Tryd.pinned (.plain (OpenSpec.ofChange varsNilSpec)) varsNilCard

/-- THE TIED CARD OF 'gimletlaw23.VarsTurns'. -/
def varsTurnsCard : Claim7 := { stood := { row := varsTurnsRow, standIns := [], harness := (true, "ad88b18fa5cecbf30a26213c9b87035bcf4c1f531589068041e55abbb04c666c"), looks := false }, kinds := [], alts := [], laidByText := true, laidKinds := [.data, .data, .data], laidTests := true, laidLooks := .later }
def VarsTurnsCardSaid : Prop := Claim7.holds Tryd.pinned (.plain (OpenSpec.ofChange varsTurnsSpec)) varsTurnsCard

/-- THE SECOND FORM's CARD OF 'gimletlaw23.VarsSet'. -/
def varsSetUptoCard : Claim7 := { stood := { row := varsSetUptoRow, standIns := [], harness := (true, "ad88b18fa5cecbf30a26213c9b87035bcf4c1f531589068041e55abbb04c666c"), looks := false }, kinds := [], alts := [], laidByText := true, laidKinds := [.data, .data, .data], laidTests := true, laidLooks := .later }
def VarsSetUptoCardSaid : Prop := Claim7.holds Tryd.pinned (.plain (OpenSpec.upto varsSetSpec)) varsSetUptoCard

/-- THE SECOND FORM's CARD OF 'gimletlaw23.VarsMany'. -/
def varsManyUptoCard : Claim7 := { stood := { row := varsManyUptoRow, standIns := [], harness := (true, "ad88b18fa5cecbf30a26213c9b87035bcf4c1f531589068041e55abbb04c666c"), looks := false }, kinds := [], alts := [], laidByText := true, laidKinds := [.data, .data, .data], laidTests := true, laidLooks := .later }
def VarsManyUptoCardSaid : Prop := Claim7.holds Tryd.pinned (.plain (OpenSpec.upto varsManySpec)) varsManyUptoCard

/-- THE SECOND FORM's CARD OF 'gimletlaw23.VarsPlace'. -/
def varsPlaceUptoCard : Claim7 := { stood := { row := varsPlaceUptoRow, standIns := [], harness := (true, "ad88b18fa5cecbf30a26213c9b87035bcf4c1f531589068041e55abbb04c666c"), looks := false }, kinds := [], alts := [], laidByText := true, laidKinds := [.data, .data, .data], laidTests := true, laidLooks := .later }
def VarsPlaceUptoCardSaid : Prop := Claim7.holds Tryd.pinned (.plain (OpenSpec.upto varsPlaceSpec)) varsPlaceUptoCard

/-- THE SECOND FORM's CARD OF 'gimletlaw23.VarsAhead'. -/
def varsAheadUptoCard : Claim7 := { stood := { row := varsAheadUptoRow, standIns := [], harness := (true, "ad88b18fa5cecbf30a26213c9b87035bcf4c1f531589068041e55abbb04c666c"), looks := false }, kinds := [], alts := [], laidByText := true, laidKinds := [.data, .data, .data], laidTests := true, laidLooks := .later }
def VarsAheadUptoCardSaid : Prop := Claim7.holds Tryd.pinned (.plain (OpenSpec.upto varsAheadSpec)) varsAheadUptoCard

/-- THE SECOND FORM's CARD OF 'gimletlaw23.VarsWord'. -/
def varsWordUptoCard : Claim7 := { stood := { row := varsWordUptoRow, standIns := [], harness := (true, "ad88b18fa5cecbf30a26213c9b87035bcf4c1f531589068041e55abbb04c666c"), looks := false }, kinds := [], alts := [], laidByText := true, laidKinds := [.data, .data, .data], laidTests := true, laidLooks := .later }
def VarsWordUptoCardSaid : Prop := Claim7.holds Tryd.pinned (.plain (OpenSpec.upto varsWordSpec)) varsWordUptoCard

/-- THE SECOND FORM's CARD OF 'gimletlaw23.VarsNil'. -/
def varsNilUptoCard : Claim7 := { stood := { row := varsNilUptoRow, standIns := [], harness := (true, "ad88b18fa5cecbf30a26213c9b87035bcf4c1f531589068041e55abbb04c666c"), looks := false }, kinds := [], alts := [], laidByText := true, laidKinds := [.data, .data, .data], laidTests := true, laidLooks := .later }
def VarsNilUptoCardSaid : Prop := Claim7.holds Tryd.pinned (.plain (OpenSpec.upto varsNilSpec)) varsNilUptoCard

/-- THE SECOND FORM's CARD OF 'gimletlaw23.VarsTurns'. -/
def varsTurnsUptoCard : Claim7 := { stood := { row := varsTurnsUptoRow, standIns := [], harness := (true, "ad88b18fa5cecbf30a26213c9b87035bcf4c1f531589068041e55abbb04c666c"), looks := false }, kinds := [], alts := [], laidByText := true, laidKinds := [.data, .data, .data], laidTests := true, laidLooks := .later }
def VarsTurnsUptoCardSaid : Prop := Claim7.holds Tryd.pinned (.plain (OpenSpec.upto varsTurnsSpec)) varsTurnsUptoCard
end Rows
end Go.Proofs.YtmjadcjpgcbalaaDoor
