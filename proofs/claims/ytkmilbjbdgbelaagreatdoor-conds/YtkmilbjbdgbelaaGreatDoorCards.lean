/-
  DERIVED. GIVEN WITH THE SEED: THE CARDS: each row of YtkmilbjbdgbelaaGreatDoorRows.lean that lists a variable, with what it lists TIED to the program's text (the seventh form; the later family's looks); each row that meets fmt, with fmt's text TOLD by the authors' own Lean function (tested against real Go, not proved from fmt's source: count such statements apart). THE CARD IS WHAT COUNTS. Prove the row's statement (the work); the ties are given (YtkmilbjbdgbelaaGreatDoorTie.lean); close each card by the builder's one call (the guide's Derived/Test/ToyasCard.lean, 'card_holds'). Laid BY PROGRAM, IN A SANDBOX (cutbox-door.mjs). By AI agents, Wed Nov 11 2026. No macro, syntax, notation, axiom, sorry.
-/
import Derived.Test.YtkmilbjbdgbelaaGreatDoorRows
import GoSem.ClaimSeven
namespace Go.Proofs.YtkmilbjbdgbelaaGreatDoor
namespace Rows

/-- THE TIED CARD OF 'trustquerylaw.Checks'. -/
def checksCard : Claim7 := { stood := { row := checksRow, standIns := [], harness := (true, "4df81c01bad140e65835117a3b2e03cc4773c1bcb42dc2517e0cb9154e7aad28"), looks := false }, kinds := [], alts := [], laidByText := true, laidKinds := [.data, .data, .data], laidTests := true, laidLooks := .later }
def ChecksCardSaid : Prop := Claim7.holds Tryz.pinned (.plain (OpenSpec.ofChange checksSpec)) checksCard

/-- THE TIED CARD OF 'trustquerylaw.Prints'. -/
def printsCard : Claim7 := { stood := { row := printsRow, standIns := [], harness := (true, "4df81c01bad140e65835117a3b2e03cc4773c1bcb42dc2517e0cb9154e7aad28"), looks := false }, kinds := [], alts := [], laidByText := true, laidKinds := [.data, .data, .data], laidTests := true, laidLooks := .later }
def PrintsCardSaid : Prop := Claim7.holds Tryz.pinned (.plain (OpenSpec.ofChange printsSpec)) printsCard

/-- THE TIED CARD OF 'trustquerylaw.Worths'. -/
def worthsCard : Claim7 := { stood := { row := worthsRow, standIns := [], harness := (true, "4df81c01bad140e65835117a3b2e03cc4773c1bcb42dc2517e0cb9154e7aad28"), looks := false }, kinds := [], alts := [], laidByText := true, laidKinds := [.data, .data, .data], laidTests := true, laidLooks := .later }
def WorthsCardSaid : Prop := Claim7.holds Tryz.pinned (.plain (OpenSpec.ofChange worthsSpec)) worthsCard

/-- THE TIED CARD OF 'trustquerylaw.Conds'. -/
def condsCard : Claim7 := { stood := { row := condsRow, standIns := [], harness := (true, "4df81c01bad140e65835117a3b2e03cc4773c1bcb42dc2517e0cb9154e7aad28"), looks := false }, kinds := [], alts := [], laidByText := true, laidKinds := [.data, .data, .data], laidTests := true, laidLooks := .later }
def CondsCardSaid : Prop := Claim7.holds Tryz.pinned (.plain (OpenSpec.ofChange condsSpec)) condsCard

/-- THE SECOND FORM's CARD OF 'trustquerylaw.Checks'. -/
def checksUptoCard : Claim7 := { stood := { row := checksUptoRow, standIns := [], harness := (true, "4df81c01bad140e65835117a3b2e03cc4773c1bcb42dc2517e0cb9154e7aad28"), looks := false }, kinds := [], alts := [], laidByText := true, laidKinds := [.data, .data, .data], laidTests := true, laidLooks := .later }
def ChecksUptoCardSaid : Prop := Claim7.holds Tryz.pinned (.plain (OpenSpec.upto checksSpec)) checksUptoCard

/-- THE SECOND FORM's CARD OF 'trustquerylaw.Prints'. -/
def printsUptoCard : Claim7 := { stood := { row := printsUptoRow, standIns := [], harness := (true, "4df81c01bad140e65835117a3b2e03cc4773c1bcb42dc2517e0cb9154e7aad28"), looks := false }, kinds := [], alts := [], laidByText := true, laidKinds := [.data, .data, .data], laidTests := true, laidLooks := .later }
def PrintsUptoCardSaid : Prop := Claim7.holds Tryz.pinned (.plain (OpenSpec.upto printsSpec)) printsUptoCard

/-- THE SECOND FORM's CARD OF 'trustquerylaw.Worths'. -/
def worthsUptoCard : Claim7 := { stood := { row := worthsUptoRow, standIns := [], harness := (true, "4df81c01bad140e65835117a3b2e03cc4773c1bcb42dc2517e0cb9154e7aad28"), looks := false }, kinds := [], alts := [], laidByText := true, laidKinds := [.data, .data, .data], laidTests := true, laidLooks := .later }
def WorthsUptoCardSaid : Prop := Claim7.holds Tryz.pinned (.plain (OpenSpec.upto worthsSpec)) worthsUptoCard

/-- THE SECOND FORM's CARD OF 'trustquerylaw.Conds'. -/
def condsUptoCard : Claim7 := { stood := { row := condsUptoRow, standIns := [], harness := (true, "4df81c01bad140e65835117a3b2e03cc4773c1bcb42dc2517e0cb9154e7aad28"), looks := false }, kinds := [], alts := [], laidByText := true, laidKinds := [.data, .data, .data], laidTests := true, laidLooks := .later }
def CondsUptoCardSaid : Prop := Claim7.holds Tryz.pinned (.plain (OpenSpec.upto condsSpec)) condsUptoCard
end Rows
end Go.Proofs.YtkmilbjbdgbelaaGreatDoor
