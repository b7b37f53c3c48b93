/-
  DERIVED. GIVEN WITH THE SEED: THE CARDS: each row of YtlalnkabfigodaaDoorRows.lean that lists a variable, with what it lists TIED to the program's text (the seventh form; the later family's looks); each row that meets fmt, with fmt's text TOLD by the authors' own Lean function (tested against real Go, not proved from fmt's source: count such statements apart). THE CARD IS WHAT COUNTS. Prove the row's statement (the work); the ties are given (YtlalnkabfigodaaDoorTie.lean); close each card by the builder's one call (the guide's Derived/Test/ToyasCard.lean, 'card_holds'). Laid BY PROGRAM, IN A SANDBOX (cutbox-door.mjs). By AI agents, Wed Nov 11 2026. No macro, syntax, notation, axiom, sorry.
-/
import Derived.Test.YtlalnkabfigodaaDoorRows
import GoSem.ClaimSeven
namespace Go.Proofs.YtlalnkabfigodaaDoor
namespace Rows

/-- THE TIED CARD OF 'bezellaw07.CoerceAsks'. -/
def coerceAsksCard : Claim7 := { stood := { row := coerceAsksRow, standIns := [], harness := (true, "8822b06a71509808cf548f93af4e43097a3d37c01ae23883d26e3c8e01e1d9ca"), looks := false }, kinds := [], alts := [], laidByText := true, laidKinds := [.data, .data], laidTests := true, laidLooks := .later }
def CoerceAsksCardSaid : Prop := Claim7.holds Tryd.pinned (.plain (OpenSpec.ofChange coerceAsksSpec)) coerceAsksCard

/-- THE TIED CARD OF 'bezellaw07.CoerceMakes'. -/
def coerceMakesCard : Claim7 := { stood := { row := coerceMakesRow, standIns := [], harness := (true, "8822b06a71509808cf548f93af4e43097a3d37c01ae23883d26e3c8e01e1d9ca"), looks := false }, kinds := [], alts := [], laidByText := true, laidKinds := [.data, .data], laidTests := true, laidLooks := .later }
def CoerceMakesCardSaid : Prop := Claim7.holds Tryd.pinned (.plain (OpenSpec.ofChange coerceMakesSpec)) coerceMakesCard

/-- THE TIED CARD OF 'bezellaw07.CoerceOften'. -/
def coerceOftenCard : Claim7 := { stood := { row := coerceOftenRow, standIns := [], harness := (true, "8822b06a71509808cf548f93af4e43097a3d37c01ae23883d26e3c8e01e1d9ca"), looks := false }, kinds := [], alts := [], laidByText := true, laidKinds := [.data, .data], laidTests := true, laidLooks := .later }
def CoerceOftenCardSaid : Prop := Claim7.holds Tryd.pinned (.plain (OpenSpec.ofChange coerceOftenSpec)) coerceOftenCard

/-- THE TIED CARD OF 'bezellaw07.CoerceTypes'. -/
def coerceTypesCard : Claim7 := { stood := { row := coerceTypesRow, standIns := [], harness := (true, "8822b06a71509808cf548f93af4e43097a3d37c01ae23883d26e3c8e01e1d9ca"), looks := false }, kinds := [], alts := [], laidByText := true, laidKinds := [.data, .data], laidTests := true, laidLooks := .later }
def CoerceTypesCardSaid : Prop := Claim7.holds Tryd.pinned (.plain (OpenSpec.ofChange coerceTypesSpec)) coerceTypesCard

/-- THE SECOND FORM's CARD OF 'bezellaw07.CoerceAsks'. -/
def coerceAsksUptoCard : Claim7 := { stood := { row := coerceAsksUptoRow, standIns := [], harness := (true, "8822b06a71509808cf548f93af4e43097a3d37c01ae23883d26e3c8e01e1d9ca"), looks := false }, kinds := [], alts := [], laidByText := true, laidKinds := [.data, .data], laidTests := true, laidLooks := .later }
def CoerceAsksUptoCardSaid : Prop := Claim7.holds Tryd.pinned (.plain (OpenSpec.upto coerceAsksSpec)) coerceAsksUptoCard

/-- THE SECOND FORM's CARD OF 'bezellaw07.CoerceMakes'. -/
def coerceMakesUptoCard : Claim7 := { stood := { row := coerceMakesUptoRow, standIns := [], harness := (true, "8822b06a71509808cf548f93af4e43097a3d37c01ae23883d26e3c8e01e1d9ca"), looks := false }, kinds := [], alts := [], laidByText := true, laidKinds := [.data, .data], laidTests := true, laidLooks := .later }
def CoerceMakesUptoCardSaid : Prop := Claim7.holds Tryd.pinned (.plain (OpenSpec.upto coerceMakesSpec)) coerceMakesUptoCard

/-- THE SECOND FORM's CARD OF 'bezellaw07.CoerceOften'. -/
def coerceOftenUptoCard : Claim7 := { stood := { row := coerceOftenUptoRow, standIns := [], harness := (true, "8822b06a71509808cf548f93af4e43097a3d37c01ae23883d26e3c8e01e1d9ca"), looks := false }, kinds := [], alts := [], laidByText := true, laidKinds := [.data, .data], laidTests := true, laidLooks := .later }
def CoerceOftenUptoCardSaid : Prop := Claim7.holds Tryd.pinned (.plain (OpenSpec.upto coerceOftenSpec)) coerceOftenUptoCard

/-- THE SECOND FORM's CARD OF 'bezellaw07.CoerceTypes'. -/
def coerceTypesUptoCard : Claim7 := { stood := { row := coerceTypesUptoRow, standIns := [], harness := (true, "8822b06a71509808cf548f93af4e43097a3d37c01ae23883d26e3c8e01e1d9ca"), looks := false }, kinds := [], alts := [], laidByText := true, laidKinds := [.data, .data], laidTests := true, laidLooks := .later }
def CoerceTypesUptoCardSaid : Prop := Claim7.holds Tryd.pinned (.plain (OpenSpec.upto coerceTypesSpec)) coerceTypesUptoCard
end Rows
end Go.Proofs.YtlalnkabfigodaaDoor
