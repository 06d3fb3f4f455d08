/-
  DERIVED. GIVEN WITH THE SEED: THE CARDS: each row of YtjjoangkkcdghaaDoorRows.lean that lists a variable, with what it lists TIED to the program's text (the seventh form; the later family's looks); each row that meets fmt, with fmt's text TOLD by the authors' own Lean function (tested against real Go, not proved from fmt's source: count such statements apart). THE CARD IS WHAT COUNTS. Prove the row's statement (the work); the ties are given (YtjjoangkkcdghaaDoorTie.lean); close each card by the builder's one call (the guide's Derived/Test/ToyasCard.lean, 'card_holds'). Laid BY PROGRAM, IN A SANDBOX (cutbox-door.mjs). By AI agents, Wed Nov 11 2026. No macro, syntax, notation, axiom, sorry.
-/
import Derived.Test.YtjjoangkkcdghaaDoorRows
import GoSem.ClaimSeven
namespace Go.Proofs.YtjjoangkkcdghaaDoor
namespace Rows

/-- THE TIED CARD OF 'thicketlaw.Digests'. -/
def digestsCard : Claim7 := { stood := { row := digestsRow, standIns := [], harness := (true, "166b68d7e6acee26a3ddd924cd905a73332aeae4f6454b979ad52e8cf56baf78"), looks := false }, kinds := [], alts := [], laidByText := true, laidKinds := [.data, .data], laidTests := true, laidLooks := .later }
def DigestsCardSaid : Prop := Claim7.holds Tryd.pinned (.plain (OpenSpec.ofChange digestsSpec)) digestsCard

/-- THE TIED CARD OF 'thicketlaw.Proofs'. -/
def proofsCard : Claim7 := { stood := { row := proofsRow, standIns := [], harness := (true, "166b68d7e6acee26a3ddd924cd905a73332aeae4f6454b979ad52e8cf56baf78"), looks := false }, kinds := [], alts := [], laidByText := true, laidKinds := [.data, .data], laidTests := true, laidLooks := .later }
def ProofsCardSaid : Prop := Claim7.holds Tryd.pinned (.plain (OpenSpec.ofChange proofsSpec)) proofsCard

/-- THE TIED CARD OF 'thicketkeep.Taken'. -/
def takenCard : Claim7 := { stood := { row := takenRow, standIns := [], harness := (true, "166b68d7e6acee26a3ddd924cd905a73332aeae4f6454b979ad52e8cf56baf78"), looks := false }, kinds := [], alts := [], laidByText := true, laidKinds := [.data, .data], laidTests := true, laidLooks := .later }
def TakenCardSaid : Prop := Claim7.holds Tryd.pinned (.plain (OpenSpec.ofChange takenSpec)) takenCard

/-- THE SECOND FORM's CARD OF 'thicketlaw.Digests'. -/
def digestsUptoCard : Claim7 := { stood := { row := digestsUptoRow, standIns := [], harness := (true, "166b68d7e6acee26a3ddd924cd905a73332aeae4f6454b979ad52e8cf56baf78"), looks := false }, kinds := [], alts := [], laidByText := true, laidKinds := [.data, .data], laidTests := true, laidLooks := .later }
def DigestsUptoCardSaid : Prop := Claim7.holds Tryd.pinned (.plain (OpenSpec.upto digestsSpec)) digestsUptoCard

/-- THE SECOND FORM's CARD OF 'thicketlaw.Proofs'. -/
def proofsUptoCard : Claim7 := { stood := { row := proofsUptoRow, standIns := [], harness := (true, "166b68d7e6acee26a3ddd924cd905a73332aeae4f6454b979ad52e8cf56baf78"), looks := false }, kinds := [], alts := [], laidByText := true, laidKinds := [.data, .data], laidTests := true, laidLooks := .later }
def ProofsUptoCardSaid : Prop := Claim7.holds Tryd.pinned (.plain (OpenSpec.upto proofsSpec)) proofsUptoCard

/-- THE SECOND FORM's CARD OF 'thicketkeep.Taken'. -/
def takenUptoCard : Claim7 := { stood := { row := takenUptoRow, standIns := [], harness := (true, "166b68d7e6acee26a3ddd924cd905a73332aeae4f6454b979ad52e8cf56baf78"), looks := false }, kinds := [], alts := [], laidByText := true, laidKinds := [.data, .data], laidTests := true, laidLooks := .later }
def TakenUptoCardSaid : Prop := Claim7.holds Tryd.pinned (.plain (OpenSpec.upto takenSpec)) takenUptoCard
end Rows
end Go.Proofs.YtjjoangkkcdghaaDoor
