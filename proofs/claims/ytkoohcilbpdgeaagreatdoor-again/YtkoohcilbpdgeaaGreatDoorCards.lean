/-
  DERIVED. GIVEN WITH THE SEED: THE CARDS: each row of YtkoohcilbpdgeaaGreatDoorRows.lean that lists a variable, with what it lists TIED to the program's text (the seventh form; the later family's looks); each row that meets fmt, with fmt's text TOLD by the authors' own Lean function (tested against real Go, not proved from fmt's source: count such statements apart). THE CARD IS WHAT COUNTS. Prove the row's statement (the work); the ties are given (YtkoohcilbpdgeaaGreatDoorTie.lean); close each card by the builder's one call (the guide's Derived/Test/ToyasCard.lean, 'card_holds'). Laid BY PROGRAM, IN A SANDBOX (cutbox-door.mjs). By AI agents, Wed Nov 11 2026. No macro, syntax, notation, axiom, sorry.
-/
import Derived.Test.YtkoohcilbpdgeaaGreatDoorRows
import GoSem.ClaimSeven
namespace Go.Proofs.YtkoohcilbpdgeaaGreatDoor
namespace Rows

/-- THE TIED CARD OF 'trustquerylaw.Checks'. -/
def checksCard : Claim7 := { stood := { row := checksRow, standIns := [], harness := (true, "65627aab43e23c78be913fc8bd167d73a69e4819d7212c5c86a14cd8e3b5ecf9"), looks := false }, kinds := [], alts := [], laidByText := true, laidKinds := [.data, .data, .data], laidTests := true, laidLooks := .later }
def ChecksCardSaid : Prop := Claim7.holds Tryz.pinned (.plain (OpenSpec.ofChange checksSpec)) checksCard

/-- THE TIED CARD OF 'trustquerylaw.Prints'. -/
def printsCard : Claim7 := { stood := { row := printsRow, standIns := [], harness := (true, "65627aab43e23c78be913fc8bd167d73a69e4819d7212c5c86a14cd8e3b5ecf9"), looks := false }, kinds := [], alts := [], laidByText := true, laidKinds := [.data, .data, .data], laidTests := true, laidLooks := .later }
def PrintsCardSaid : Prop := Claim7.holds Tryz.pinned (.plain (OpenSpec.ofChange printsSpec)) printsCard

/-- THE TIED CARD OF 'trustquerylaw.Worths'. -/
def worthsCard : Claim7 := { stood := { row := worthsRow, standIns := [], harness := (true, "65627aab43e23c78be913fc8bd167d73a69e4819d7212c5c86a14cd8e3b5ecf9"), looks := false }, kinds := [], alts := [], laidByText := true, laidKinds := [.data, .data, .data], laidTests := true, laidLooks := .later }
def WorthsCardSaid : Prop := Claim7.holds Tryz.pinned (.plain (OpenSpec.ofChange worthsSpec)) worthsCard

/-- THE TIED CARD OF 'trustquerylaw.Conds'. -/
def condsCard : Claim7 := { stood := { row := condsRow, standIns := [], harness := (true, "65627aab43e23c78be913fc8bd167d73a69e4819d7212c5c86a14cd8e3b5ecf9"), looks := false }, kinds := [], alts := [], laidByText := true, laidKinds := [.data, .data, .data], laidTests := true, laidLooks := .later }
def CondsCardSaid : Prop := Claim7.holds Tryz.pinned (.plain (OpenSpec.ofChange condsSpec)) condsCard

/-- THE TIED CARD OF 'trustquerylaw.Queries'. -/
def queriesCard : Claim7 := { stood := { row := queriesRow, standIns := [], harness := (true, "65627aab43e23c78be913fc8bd167d73a69e4819d7212c5c86a14cd8e3b5ecf9"), looks := false }, kinds := [], alts := [], laidByText := true, laidKinds := [.data, .data, .data], laidTests := true, laidLooks := .later }
def QueriesCardSaid : Prop := Claim7.holds Tryz.pinned (.plain (OpenSpec.ofChange queriesSpec)) queriesCard

/-- THE TIED CARD OF 'trustquerylaw.Chains'. -/
def chainsCard : Claim7 := { stood := { row := chainsRow, standIns := [], harness := (true, "65627aab43e23c78be913fc8bd167d73a69e4819d7212c5c86a14cd8e3b5ecf9"), looks := false }, kinds := [], alts := [], laidByText := true, laidKinds := [.data, .data, .data], laidTests := true, laidLooks := .later }
def ChainsCardSaid : Prop := Claim7.holds Tryz.pinned (.plain (OpenSpec.ofChange chainsSpec)) chainsCard

/-- THE TIED CARD OF 'trustquerylaw.More'. -/
def moreCard : Claim7 := { stood := { row := moreRow, standIns := [], harness := (true, "65627aab43e23c78be913fc8bd167d73a69e4819d7212c5c86a14cd8e3b5ecf9"), looks := false }, kinds := [], alts := [], laidByText := true, laidKinds := [.data, .data, .data], laidTests := true, laidLooks := .later }
def MoreCardSaid : Prop := Claim7.holds Tryz.pinned (.plain (OpenSpec.ofChange moreSpec)) moreCard

/-- THE TIED CARD OF 'trustquerylaw.Again'. -/
def againCard : Claim7 := { stood := { row := againRow, standIns := [], harness := (true, "65627aab43e23c78be913fc8bd167d73a69e4819d7212c5c86a14cd8e3b5ecf9"), looks := false }, kinds := [], alts := [], laidByText := true, laidKinds := [.data, .data, .data], laidTests := true, laidLooks := .later }
def AgainCardSaid : Prop := Claim7.holds Tryz.pinned (.plain (OpenSpec.ofChange againSpec)) againCard

/-- THE TIED CARD OF 'trustquerylaw.Rowed'. -/
def rowedCard : Claim7 := { stood := { row := rowedRow, standIns := [], harness := (true, "65627aab43e23c78be913fc8bd167d73a69e4819d7212c5c86a14cd8e3b5ecf9"), looks := false }, kinds := [], alts := [], laidByText := true, laidKinds := [.data, .data, .data], laidTests := true, laidLooks := .later }
def RowedCardSaid : Prop := Claim7.holds Tryz.pinned (.plain (OpenSpec.ofChange rowedSpec)) rowedCard

/-- THE TIED CARD OF 'trustquerylaw.All'. -/
def allCard : Claim7 := { stood := { row := allRow, standIns := [], harness := (true, "65627aab43e23c78be913fc8bd167d73a69e4819d7212c5c86a14cd8e3b5ecf9"), looks := false }, kinds := [], alts := [], laidByText := true, laidKinds := [.data, .data, .data], laidTests := true, laidLooks := .later }
def AllCardSaid : Prop := Claim7.holds Tryz.pinned (.plain (OpenSpec.ofChange allSpec)) allCard

/-- THE SECOND FORM's CARD OF 'trustquerylaw.Checks'. -/
def checksUptoCard : Claim7 := { stood := { row := checksUptoRow, standIns := [], harness := (true, "65627aab43e23c78be913fc8bd167d73a69e4819d7212c5c86a14cd8e3b5ecf9"), looks := false }, kinds := [], alts := [], laidByText := true, laidKinds := [.data, .data, .data], laidTests := true, laidLooks := .later }
def ChecksUptoCardSaid : Prop := Claim7.holds Tryz.pinned (.plain (OpenSpec.upto checksSpec)) checksUptoCard

/-- THE SECOND FORM's CARD OF 'trustquerylaw.Prints'. -/
def printsUptoCard : Claim7 := { stood := { row := printsUptoRow, standIns := [], harness := (true, "65627aab43e23c78be913fc8bd167d73a69e4819d7212c5c86a14cd8e3b5ecf9"), looks := false }, kinds := [], alts := [], laidByText := true, laidKinds := [.data, .data, .data], laidTests := true, laidLooks := .later }
def PrintsUptoCardSaid : Prop := Claim7.holds Tryz.pinned (.plain (OpenSpec.upto printsSpec)) printsUptoCard

/-- THE SECOND FORM's CARD OF 'trustquerylaw.Worths'. -/
def worthsUptoCard : Claim7 := { stood := { row := worthsUptoRow, standIns := [], harness := (true, "65627aab43e23c78be913fc8bd167d73a69e4819d7212c5c86a14cd8e3b5ecf9"), looks := false }, kinds := [], alts := [], laidByText := true, laidKinds := [.data, .data, .data], laidTests := true, laidLooks := .later }
def WorthsUptoCardSaid : Prop := Claim7.holds Tryz.pinned (.plain (OpenSpec.upto worthsSpec)) worthsUptoCard

/-- THE SECOND FORM's CARD OF 'trustquerylaw.Conds'. -/
def condsUptoCard : Claim7 := { stood := { row := condsUptoRow, standIns := [], harness := (true, "65627aab43e23c78be913fc8bd167d73a69e4819d7212c5c86a14cd8e3b5ecf9"), looks := false }, kinds := [], alts := [], laidByText := true, laidKinds := [.data, .data, .data], laidTests := true, laidLooks := .later }
def CondsUptoCardSaid : Prop := Claim7.holds Tryz.pinned (.plain (OpenSpec.upto condsSpec)) condsUptoCard

/-- THE SECOND FORM's CARD OF 'trustquerylaw.Queries'. -/
def queriesUptoCard : Claim7 := { stood := { row := queriesUptoRow, standIns := [], harness := (true, "65627aab43e23c78be913fc8bd167d73a69e4819d7212c5c86a14cd8e3b5ecf9"), looks := false }, kinds := [], alts := [], laidByText := true, laidKinds := [.data, .data, .data], laidTests := true, laidLooks := .later }
def QueriesUptoCardSaid : Prop := Claim7.holds Tryz.pinned (.plain (OpenSpec.upto queriesSpec)) queriesUptoCard

/-- THE SECOND FORM's CARD OF 'trustquerylaw.Chains'. -/
def chainsUptoCard : Claim7 := { stood := { row := chainsUptoRow, standIns := [], harness := (true, "65627aab43e23c78be913fc8bd167d73a69e4819d7212c5c86a14cd8e3b5ecf9"), looks := false }, kinds := [], alts := [], laidByText := true, laidKinds := [.data, .data, .data], laidTests := true, laidLooks := .later }
def ChainsUptoCardSaid : Prop := Claim7.holds Tryz.pinned (.plain (OpenSpec.upto chainsSpec)) chainsUptoCard

/-- THE SECOND FORM's CARD OF 'trustquerylaw.More'. -/
def moreUptoCard : Claim7 := { stood := { row := moreUptoRow, standIns := [], harness := (true, "65627aab43e23c78be913fc8bd167d73a69e4819d7212c5c86a14cd8e3b5ecf9"), looks := false }, kinds := [], alts := [], laidByText := true, laidKinds := [.data, .data, .data], laidTests := true, laidLooks := .later }
def MoreUptoCardSaid : Prop := Claim7.holds Tryz.pinned (.plain (OpenSpec.upto moreSpec)) moreUptoCard

/-- THE SECOND FORM's CARD OF 'trustquerylaw.Again'. -/
def againUptoCard : Claim7 := { stood := { row := againUptoRow, standIns := [], harness := (true, "65627aab43e23c78be913fc8bd167d73a69e4819d7212c5c86a14cd8e3b5ecf9"), looks := false }, kinds := [], alts := [], laidByText := true, laidKinds := [.data, .data, .data], laidTests := true, laidLooks := .later }
def AgainUptoCardSaid : Prop := Claim7.holds Tryz.pinned (.plain (OpenSpec.upto againSpec)) againUptoCard

/-- THE SECOND FORM's CARD OF 'trustquerylaw.Rowed'. -/
def rowedUptoCard : Claim7 := { stood := { row := rowedUptoRow, standIns := [], harness := (true, "65627aab43e23c78be913fc8bd167d73a69e4819d7212c5c86a14cd8e3b5ecf9"), looks := false }, kinds := [], alts := [], laidByText := true, laidKinds := [.data, .data, .data], laidTests := true, laidLooks := .later }
def RowedUptoCardSaid : Prop := Claim7.holds Tryz.pinned (.plain (OpenSpec.upto rowedSpec)) rowedUptoCard

/-- THE SECOND FORM's CARD OF 'trustquerylaw.All'. -/
def allUptoCard : Claim7 := { stood := { row := allUptoRow, standIns := [], harness := (true, "65627aab43e23c78be913fc8bd167d73a69e4819d7212c5c86a14cd8e3b5ecf9"), looks := false }, kinds := [], alts := [], laidByText := true, laidKinds := [.data, .data, .data], laidTests := true, laidLooks := .later }
def AllUptoCardSaid : Prop := Claim7.holds Tryz.pinned (.plain (OpenSpec.upto allSpec)) allUptoCard
end Rows
end Go.Proofs.YtkoohcilbpdgeaaGreatDoor
