/-
  DERIVED. GIVEN WITH THE SEED: THE CARDS: each row of YtghgjefobfaodaaDoorRows.lean that lists a variable, with what it lists TIED to the program's text (the seventh form; the later family's looks); each row that meets fmt, with fmt's text TOLD by the authors' own Lean function (tested against real Go, not proved from fmt's source: count such statements apart). THE CARD IS WHAT COUNTS. Prove the row's statement (the work); the ties are given (YtghgjefobfaodaaDoorTie.lean); close each card by the builder's one call (the guide's Derived/Test/ToyasCard.lean, 'card_holds'). Laid BY PROGRAM, IN A SANDBOX (cutbox-door.mjs). By AI agents, Wed Nov 11 2026. No macro, syntax, notation, axiom, sorry.
-/
import Derived.Test.YtghgjefobfaodaaDoorRows
import GoSem.ClaimSeven
namespace Go.Proofs.YtghgjefobfaodaaDoor
namespace Rows

/-- THE TIED CARD OF 'bezellaw03.DatumReads'. -/
def datumReadsCard : Claim7 := { stood := { row := datumReadsRow, standIns := [], harness := (true, "62e750cc26287ff5fbadf0dc57044766729894213aba61d38b82e2350e1ba420"), looks := true }, kinds := [], alts := [], laidByText := true, laidKinds := [.data, .pinned], laidTests := true, laidLooks := .later }
def DatumReadsCardSaid : Prop := Claim7.holds Tryd.pinned (.plain (OpenSpec.ofChange datumReadsSpec)) datumReadsCard

/-- THE TIED CARD OF 'bezellaw03.DatumPrints'. -/
def datumPrintsCard : Claim7 := { stood := { row := datumPrintsRow, standIns := [], harness := (true, "62e750cc26287ff5fbadf0dc57044766729894213aba61d38b82e2350e1ba420"), looks := true }, kinds := [], alts := [], laidByText := true, laidKinds := [.data, .pinned], laidTests := true, laidLooks := .later }
def DatumPrintsCardSaid : Prop := Claim7.holds Tryd.pinned (.plain (OpenSpec.ofChange datumPrintsSpec)) datumPrintsCard

/-- THE TIED CARD OF 'bezellaw03.DatumBack'. -/
def datumBackCard : Claim7 := { stood := { row := datumBackRow, standIns := [], harness := (true, "62e750cc26287ff5fbadf0dc57044766729894213aba61d38b82e2350e1ba420"), looks := true }, kinds := [], alts := [], laidByText := true, laidKinds := [.data, .pinned], laidTests := true, laidLooks := .later }
def DatumBackCardSaid : Prop := Claim7.holds Tryd.pinned (.plain (OpenSpec.ofChange datumBackSpec)) datumBackCard

/-- THE TIED CARD OF 'bezellaw03.DatumAgain'. -/
def datumAgainCard : Claim7 := { stood := { row := datumAgainRow, standIns := [], harness := (true, "62e750cc26287ff5fbadf0dc57044766729894213aba61d38b82e2350e1ba420"), looks := true }, kinds := [], alts := [], laidByText := true, laidKinds := [.data, .pinned], laidTests := true, laidLooks := .later }
def DatumAgainCardSaid : Prop := Claim7.holds Tryd.pinned (.plain (OpenSpec.ofChange datumAgainSpec)) datumAgainCard

/-- THE SECOND FORM's CARD OF 'bezellaw03.DatumReads'. -/
def datumReadsUptoCard : Claim7 := { stood := { row := datumReadsUptoRow, standIns := [], harness := (true, "62e750cc26287ff5fbadf0dc57044766729894213aba61d38b82e2350e1ba420"), looks := true }, kinds := [], alts := [], laidByText := true, laidKinds := [.data, .pinned], laidTests := true, laidLooks := .later }
def DatumReadsUptoCardSaid : Prop := Claim7.holds Tryd.pinned (.plain (OpenSpec.upto datumReadsSpec)) datumReadsUptoCard

/-- THE SECOND FORM's CARD OF 'bezellaw03.DatumPrints'. -/
def datumPrintsUptoCard : Claim7 := { stood := { row := datumPrintsUptoRow, standIns := [], harness := (true, "62e750cc26287ff5fbadf0dc57044766729894213aba61d38b82e2350e1ba420"), looks := true }, kinds := [], alts := [], laidByText := true, laidKinds := [.data, .pinned], laidTests := true, laidLooks := .later }
def DatumPrintsUptoCardSaid : Prop := Claim7.holds Tryd.pinned (.plain (OpenSpec.upto datumPrintsSpec)) datumPrintsUptoCard

/-- THE SECOND FORM's CARD OF 'bezellaw03.DatumBack'. -/
def datumBackUptoCard : Claim7 := { stood := { row := datumBackUptoRow, standIns := [], harness := (true, "62e750cc26287ff5fbadf0dc57044766729894213aba61d38b82e2350e1ba420"), looks := true }, kinds := [], alts := [], laidByText := true, laidKinds := [.data, .pinned], laidTests := true, laidLooks := .later }
def DatumBackUptoCardSaid : Prop := Claim7.holds Tryd.pinned (.plain (OpenSpec.upto datumBackSpec)) datumBackUptoCard

/-- THE SECOND FORM's CARD OF 'bezellaw03.DatumAgain'. -/
def datumAgainUptoCard : Claim7 := { stood := { row := datumAgainUptoRow, standIns := [], harness := (true, "62e750cc26287ff5fbadf0dc57044766729894213aba61d38b82e2350e1ba420"), looks := true }, kinds := [], alts := [], laidByText := true, laidKinds := [.data, .pinned], laidTests := true, laidLooks := .later }
def DatumAgainUptoCardSaid : Prop := Claim7.holds Tryd.pinned (.plain (OpenSpec.upto datumAgainSpec)) datumAgainUptoCard
end Rows
end Go.Proofs.YtghgjefobfaodaaDoor
