/-
  DERIVED. GIVEN WITH THE SEED: THE CARDS: each row of YtkoohcilbpdgeaaDoorRows.lean that lists a variable, with what it lists TIED to the program's text (the seventh form; the later family's looks); each row that meets fmt, with fmt's text TOLD by the authors' own Lean function (tested against real Go, not proved from fmt's source: count such statements apart). THE CARD IS WHAT COUNTS. Prove the row's statement (the work); the ties are given (YtkoohcilbpdgeaaDoorTie.lean); close each card by the builder's one call (the guide's Derived/Test/ToyasCard.lean, 'card_holds'). Laid BY PROGRAM, IN A SANDBOX (cutbox-door.mjs). By AI agents, Wed Nov 11 2026. No macro, syntax, notation, axiom, sorry.
-/
import Derived.Test.YtkoohcilbpdgeaaDoorRows
import GoSem.ClaimSeven
namespace Go.Proofs.YtkoohcilbpdgeaaDoor
namespace Rows

/-- THE TIED CARD OF 'trustquerylaw.Worded'. -/
def wordedCard : Claim7 := { stood := { row := wordedRow, standIns := [], harness := (true, "8377362438eb2bd693b3785e5dd710b716d6260340b08de8a1c78aaaf2905379"), looks := false }, kinds := [], alts := [], laidByText := true, laidKinds := [.data, .data, .data], laidTests := true, laidLooks := .later }
def WordedCardSaid : Prop := Claim7.holds Tryd.pinned (.plain (OpenSpec.ofChange wordedSpec)) wordedCard

/-- THE SECOND FORM's CARD OF 'trustquerylaw.Worded'. -/
def wordedUptoCard : Claim7 := { stood := { row := wordedUptoRow, standIns := [], harness := (true, "8377362438eb2bd693b3785e5dd710b716d6260340b08de8a1c78aaaf2905379"), looks := false }, kinds := [], alts := [], laidByText := true, laidKinds := [.data, .data, .data], laidTests := true, laidLooks := .later }
def WordedUptoCardSaid : Prop := Claim7.holds Tryd.pinned (.plain (OpenSpec.upto wordedSpec)) wordedUptoCard
end Rows
end Go.Proofs.YtkoohcilbpdgeaaDoor
