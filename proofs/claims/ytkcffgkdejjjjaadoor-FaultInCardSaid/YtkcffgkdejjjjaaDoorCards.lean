/-
  DERIVED. GIVEN WITH THE SEED: THE CARDS: each row of YtkcffgkdejjjjaaDoorRows.lean that lists a variable, with what it lists TIED to the program's text (the seventh form; the later family's looks); each row that meets fmt, with fmt's text TOLD by the authors' own Lean function (tested against real Go, not proved from fmt's source: count such statements apart). THE CARD IS WHAT COUNTS. Prove the row's statement (the work); the ties are given (YtkcffgkdejjjjaaDoorTie.lean); close each card by the builder's one call (the guide's Derived/Test/ToyasCard.lean, 'card_holds'). Laid BY PROGRAM, IN A SANDBOX (cutbox-door.mjs). By AI agents, Wed Nov 11 2026. No macro, syntax, notation, axiom, sorry.
-/
import Derived.Test.YtkcffgkdejjjjaaDoorRows
import GoSem.ClaimSeven
namespace Go.Proofs.YtkcffgkdejjjjaaDoor
namespace Rows

/-- THE TIED CARD OF 'bezellaw01.FaultTells'. -/
def faultTellsCard : Claim7 := { stood := { row := faultTellsRow, standIns := [], harness := (true, "bd3826a88ba4c0aa2182f331c4ce1c4ce6d1e236f5e928ac4db0c46c962a5a1b"), looks := true }, kinds := [], alts := [], laidByText := true, laidKinds := [.data, .data, .data, .handle], laidTests := true, laidLooks := .later }
def FaultTellsCardSaid : Prop := Claim7.holds Tryd.pinned (.plain (OpenSpec.ofChange faultTellsSpec)) faultTellsCard

/-- THE TIED CARD OF 'bezellaw01.FaultIn'. -/
def faultInCard : Claim7 := { stood := { row := faultInRow, standIns := [], harness := (true, "bd3826a88ba4c0aa2182f331c4ce1c4ce6d1e236f5e928ac4db0c46c962a5a1b"), looks := true }, kinds := [], alts := [], laidByText := true, laidKinds := [.handle], laidTests := true, laidLooks := .later }
def FaultInCardSaid : Prop := Claim7.holds Tryd.pinned (.plain (OpenSpec.ofChange faultInSpec)) faultInCard

/-- THE SECOND FORM's CARD OF 'bezellaw01.FaultTells'. -/
def faultTellsUptoCard : Claim7 := { stood := { row := faultTellsUptoRow, standIns := [], harness := (true, "bd3826a88ba4c0aa2182f331c4ce1c4ce6d1e236f5e928ac4db0c46c962a5a1b"), looks := true }, kinds := [], alts := [], laidByText := true, laidKinds := [.data, .data, .data, .handle], laidTests := true, laidLooks := .later }
def FaultTellsUptoCardSaid : Prop := Claim7.holds Tryd.pinned (.plain (OpenSpec.upto faultTellsSpec)) faultTellsUptoCard

/-- THE SECOND FORM's CARD OF 'bezellaw01.FaultIn'. -/
def faultInUptoCard : Claim7 := { stood := { row := faultInUptoRow, standIns := [], harness := (true, "bd3826a88ba4c0aa2182f331c4ce1c4ce6d1e236f5e928ac4db0c46c962a5a1b"), looks := true }, kinds := [], alts := [], laidByText := true, laidKinds := [.handle], laidTests := true, laidLooks := .later }
def FaultInUptoCardSaid : Prop := Claim7.holds Tryd.pinned (.plain (OpenSpec.upto faultInSpec)) faultInUptoCard
end Rows
end Go.Proofs.YtkcffgkdejjjjaaDoor
