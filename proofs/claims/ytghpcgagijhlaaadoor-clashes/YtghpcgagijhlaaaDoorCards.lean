/-
  DERIVED. GIVEN WITH THE SEED: THE CARDS: each row of YtghpcgagijhlaaaDoorRows.lean that lists a variable, with what it lists TIED to the program's text (the seventh form; the later family's looks); each row that meets fmt, with fmt's text TOLD by the authors' own Lean function (tested against real Go, not proved from fmt's source: count such statements apart). THE CARD IS WHAT COUNTS. Prove the row's statement (the work); the ties are given (YtghpcgagijhlaaaDoorTie.lean); close each card by the builder's one call (the guide's Derived/Test/ToyasCard.lean, 'card_holds'). Laid BY PROGRAM, IN A SANDBOX (cutbox-door.mjs). By AI agents, Wed Nov 11 2026. No macro, syntax, notation, axiom, sorry.
-/
import Derived.Test.YtghpcgagijhlaaaDoorRows
import GoSem.ClaimSeven
namespace Go.Proofs.YtghpcgagijhlaaaDoor
namespace Rows

/-- THE TIED CARD OF 'thicketlaw.Digests'. -/
def digestsCard : Claim7 := { stood := { row := digestsRow, standIns := [], harness := (true, "67b1423936a8fc1daae9d947d3be70479aa3b1353863f3a8d40a8d9f3258b47f"), looks := false }, kinds := [], alts := [], laidByText := true, laidKinds := [.data, .data], laidTests := true, laidLooks := .later }
def DigestsCardSaid : Prop := Claim7.holds Tryd.pinned (.plain (OpenSpec.ofChange digestsSpec)) digestsCard

/-- THE TIED CARD OF 'thicketlaw.Proofs'. -/
def proofsCard : Claim7 := { stood := { row := proofsRow, standIns := [], harness := (true, "67b1423936a8fc1daae9d947d3be70479aa3b1353863f3a8d40a8d9f3258b47f"), looks := false }, kinds := [], alts := [], laidByText := true, laidKinds := [.data, .data], laidTests := true, laidLooks := .later }
def ProofsCardSaid : Prop := Claim7.holds Tryd.pinned (.plain (OpenSpec.ofChange proofsSpec)) proofsCard

/-- THE TIED CARD OF 'thicketkeep.Taken'. -/
def takenCard : Claim7 := { stood := { row := takenRow, standIns := [], harness := (true, "67b1423936a8fc1daae9d947d3be70479aa3b1353863f3a8d40a8d9f3258b47f"), looks := false }, kinds := [], alts := [], laidByText := true, laidKinds := [.data, .data], laidTests := true, laidLooks := .later }
def TakenCardSaid : Prop := Claim7.holds Tryd.pinned (.plain (OpenSpec.ofChange takenSpec)) takenCard

/-- THE TIED CARD OF 'thicketlaw.Clashes'. -/
def clashesCard : Claim7 := { stood := { row := clashesRow, standIns := [], harness := (true, "67b1423936a8fc1daae9d947d3be70479aa3b1353863f3a8d40a8d9f3258b47f"), looks := false }, kinds := [], alts := [], laidByText := true, laidKinds := [.data, .data], laidTests := true, laidLooks := .later }
def ClashesCardSaid : Prop := Claim7.holds Tryd.pinned (.plain (OpenSpec.ofChange clashesSpec)) clashesCard

/-- THE TIED CARD OF 'thicketkeep.Sound'. -/
def soundCard : Claim7 := { stood := { row := soundRow, standIns := [], harness := (true, "67b1423936a8fc1daae9d947d3be70479aa3b1353863f3a8d40a8d9f3258b47f"), looks := false }, kinds := [], alts := [], laidByText := true, laidKinds := [.data, .data], laidTests := true, laidLooks := .later }
def SoundCardSaid : Prop := Claim7.holds Tryd.pinned (.plain (OpenSpec.ofChange soundSpec)) soundCard

/-- THE SECOND FORM's CARD OF 'thicketlaw.Digests'. -/
def digestsUptoCard : Claim7 := { stood := { row := digestsUptoRow, standIns := [], harness := (true, "67b1423936a8fc1daae9d947d3be70479aa3b1353863f3a8d40a8d9f3258b47f"), looks := false }, kinds := [], alts := [], laidByText := true, laidKinds := [.data, .data], laidTests := true, laidLooks := .later }
def DigestsUptoCardSaid : Prop := Claim7.holds Tryd.pinned (.plain (OpenSpec.upto digestsSpec)) digestsUptoCard

/-- THE SECOND FORM's CARD OF 'thicketlaw.Proofs'. -/
def proofsUptoCard : Claim7 := { stood := { row := proofsUptoRow, standIns := [], harness := (true, "67b1423936a8fc1daae9d947d3be70479aa3b1353863f3a8d40a8d9f3258b47f"), looks := false }, kinds := [], alts := [], laidByText := true, laidKinds := [.data, .data], laidTests := true, laidLooks := .later }
def ProofsUptoCardSaid : Prop := Claim7.holds Tryd.pinned (.plain (OpenSpec.upto proofsSpec)) proofsUptoCard

/-- THE SECOND FORM's CARD OF 'thicketkeep.Taken'. -/
def takenUptoCard : Claim7 := { stood := { row := takenUptoRow, standIns := [], harness := (true, "67b1423936a8fc1daae9d947d3be70479aa3b1353863f3a8d40a8d9f3258b47f"), looks := false }, kinds := [], alts := [], laidByText := true, laidKinds := [.data, .data], laidTests := true, laidLooks := .later }
def TakenUptoCardSaid : Prop := Claim7.holds Tryd.pinned (.plain (OpenSpec.upto takenSpec)) takenUptoCard

/-- THE SECOND FORM's CARD OF 'thicketlaw.Clashes'. -/
def clashesUptoCard : Claim7 := { stood := { row := clashesUptoRow, standIns := [], harness := (true, "67b1423936a8fc1daae9d947d3be70479aa3b1353863f3a8d40a8d9f3258b47f"), looks := false }, kinds := [], alts := [], laidByText := true, laidKinds := [.data, .data], laidTests := true, laidLooks := .later }
def ClashesUptoCardSaid : Prop := Claim7.holds Tryd.pinned (.plain (OpenSpec.upto clashesSpec)) clashesUptoCard

/-- THE SECOND FORM's CARD OF 'thicketkeep.Sound'. -/
def soundUptoCard : Claim7 := { stood := { row := soundUptoRow, standIns := [], harness := (true, "67b1423936a8fc1daae9d947d3be70479aa3b1353863f3a8d40a8d9f3258b47f"), looks := false }, kinds := [], alts := [], laidByText := true, laidKinds := [.data, .data], laidTests := true, laidLooks := .later }
def SoundUptoCardSaid : Prop := Claim7.holds Tryd.pinned (.plain (OpenSpec.upto soundSpec)) soundUptoCard
end Rows
end Go.Proofs.YtghpcgagijhlaaaDoor
