/-
  DERIVED. GIVEN WITH THE SEED: THE CARDS: each row of YtdjhjapfmbcmlaaDoorRows.lean that lists a variable, with what it lists TIED to the program's text (the seventh form; the later family's looks); each row that meets fmt, with fmt's text TOLD by the authors' own Lean function (tested against real Go, not proved from fmt's source: count such statements apart). THE CARD IS WHAT COUNTS. Prove the row's statement (the work); the ties are given (YtdjhjapfmbcmlaaDoorTie.lean); close each card by the builder's one call (the guide's Derived/Test/ToyasCard.lean, 'card_holds'). Laid BY PROGRAM, IN A SANDBOX (cutbox-door.mjs). By AI agents, Wed Nov 11 2026. No macro, syntax, notation, axiom, sorry.
-/
import Derived.Test.YtdjhjapfmbcmlaaDoorRows
import GoSem.ClaimSeven
namespace Go.Proofs.YtdjhjapfmbcmlaaDoor
namespace Rows

/-- THE TIED CARD OF 'bezellaw05.TypesRelate'. -/
def typesRelateCard : Claim7 := { stood := { row := typesRelateRow, standIns := [], harness := (true, "d6b369169698ee613290b33ac20d918b22fd4a510ad2bbb77b8e403c66b17776"), looks := false }, kinds := [], alts := [], laidByText := true, laidKinds := [.data], laidTests := true, laidLooks := .later }
def TypesRelateCardSaid : Prop := Claim7.holds Tryd.pinned (.plain (OpenSpec.ofChange typesRelateSpec)) typesRelateCard

/-- THE TIED CARD OF 'bezellaw05.TypesMake'. -/
def typesMakeCard : Claim7 := { stood := { row := typesMakeRow, standIns := [], harness := (true, "d6b369169698ee613290b33ac20d918b22fd4a510ad2bbb77b8e403c66b17776"), looks := false }, kinds := [], alts := [], laidByText := true, laidKinds := [.data], laidTests := true, laidLooks := .later }
def TypesMakeCardSaid : Prop := Claim7.holds Tryd.pinned (.plain (OpenSpec.ofChange typesMakeSpec)) typesMakeCard

/-- THE TIED CARD OF 'bezellaw05.TypesOrder'. -/
def typesOrderCard : Claim7 := { stood := { row := typesOrderRow, standIns := [], harness := (true, "d6b369169698ee613290b33ac20d918b22fd4a510ad2bbb77b8e403c66b17776"), looks := false }, kinds := [], alts := [], laidByText := true, laidKinds := [.data], laidTests := true, laidLooks := .later }
def TypesOrderCardSaid : Prop := Claim7.holds Tryd.pinned (.plain (OpenSpec.ofChange typesOrderSpec)) typesOrderCard

/-- THE TIED CARD OF 'bezellaw05.TypesJoin'. -/
def typesJoinCard : Claim7 := { stood := { row := typesJoinRow, standIns := [], harness := (true, "d6b369169698ee613290b33ac20d918b22fd4a510ad2bbb77b8e403c66b17776"), looks := false }, kinds := [], alts := [], laidByText := true, laidKinds := [.data], laidTests := true, laidLooks := .later }
def TypesJoinCardSaid : Prop := Claim7.holds Tryd.pinned (.plain (OpenSpec.ofChange typesJoinSpec)) typesJoinCard

/-- THE TIED CARD OF 'bezellaw05.TypesBack'. -/
def typesBackCard : Claim7 := { stood := { row := typesBackRow, standIns := [], harness := (true, "d6b369169698ee613290b33ac20d918b22fd4a510ad2bbb77b8e403c66b17776"), looks := false }, kinds := [], alts := [], laidByText := true, laidKinds := [.data], laidTests := true, laidLooks := .later }
def TypesBackCardSaid : Prop := Claim7.holds Tryd.pinned (.plain (OpenSpec.ofChange typesBackSpec)) typesBackCard

/-- THE SECOND FORM's CARD OF 'bezellaw05.TypesRelate'. -/
def typesRelateUptoCard : Claim7 := { stood := { row := typesRelateUptoRow, standIns := [], harness := (true, "d6b369169698ee613290b33ac20d918b22fd4a510ad2bbb77b8e403c66b17776"), looks := false }, kinds := [], alts := [], laidByText := true, laidKinds := [.data], laidTests := true, laidLooks := .later }
def TypesRelateUptoCardSaid : Prop := Claim7.holds Tryd.pinned (.plain (OpenSpec.upto typesRelateSpec)) typesRelateUptoCard

/-- THE SECOND FORM's CARD OF 'bezellaw05.TypesMake'. -/
def typesMakeUptoCard : Claim7 := { stood := { row := typesMakeUptoRow, standIns := [], harness := (true, "d6b369169698ee613290b33ac20d918b22fd4a510ad2bbb77b8e403c66b17776"), looks := false }, kinds := [], alts := [], laidByText := true, laidKinds := [.data], laidTests := true, laidLooks := .later }
def TypesMakeUptoCardSaid : Prop := Claim7.holds Tryd.pinned (.plain (OpenSpec.upto typesMakeSpec)) typesMakeUptoCard

/-- THE SECOND FORM's CARD OF 'bezellaw05.TypesOrder'. -/
def typesOrderUptoCard : Claim7 := { stood := { row := typesOrderUptoRow, standIns := [], harness := (true, "d6b369169698ee613290b33ac20d918b22fd4a510ad2bbb77b8e403c66b17776"), looks := false }, kinds := [], alts := [], laidByText := true, laidKinds := [.data], laidTests := true, laidLooks := .later }
def TypesOrderUptoCardSaid : Prop := Claim7.holds Tryd.pinned (.plain (OpenSpec.upto typesOrderSpec)) typesOrderUptoCard

/-- THE SECOND FORM's CARD OF 'bezellaw05.TypesJoin'. -/
def typesJoinUptoCard : Claim7 := { stood := { row := typesJoinUptoRow, standIns := [], harness := (true, "d6b369169698ee613290b33ac20d918b22fd4a510ad2bbb77b8e403c66b17776"), looks := false }, kinds := [], alts := [], laidByText := true, laidKinds := [.data], laidTests := true, laidLooks := .later }
def TypesJoinUptoCardSaid : Prop := Claim7.holds Tryd.pinned (.plain (OpenSpec.upto typesJoinSpec)) typesJoinUptoCard

/-- THE SECOND FORM's CARD OF 'bezellaw05.TypesBack'. -/
def typesBackUptoCard : Claim7 := { stood := { row := typesBackUptoRow, standIns := [], harness := (true, "d6b369169698ee613290b33ac20d918b22fd4a510ad2bbb77b8e403c66b17776"), looks := false }, kinds := [], alts := [], laidByText := true, laidKinds := [.data], laidTests := true, laidLooks := .later }
def TypesBackUptoCardSaid : Prop := Claim7.holds Tryd.pinned (.plain (OpenSpec.upto typesBackSpec)) typesBackUptoCard
end Rows
end Go.Proofs.YtdjhjapfmbcmlaaDoor
