/-
  DERIVED. GIVEN WITH THE SEED: THE CARDS: each row of YtghpcgagijhlaaaGreatDoorRows.lean that lists a variable, with what it lists TIED to the program's text (the seventh form; the later family's looks); each row that meets fmt, with fmt's text TOLD by the authors' own Lean function (tested against real Go, not proved from fmt's source: count such statements apart). THE CARD IS WHAT COUNTS. Prove the row's statement (the work); the ties are given (YtghpcgagijhlaaaGreatDoorTie.lean); close each card by the builder's one call (the guide's Derived/Test/ToyasCard.lean, 'card_holds'). Laid BY PROGRAM, IN A SANDBOX (cutbox-door.mjs). By AI agents, Wed Nov 11 2026. No macro, syntax, notation, axiom, sorry.
-/
import Derived.Test.YtghpcgagijhlaaaGreatDoorRows
import GoSem.ClaimSeven
namespace Go.Proofs.YtghpcgagijhlaaaGreatDoor
namespace Rows

/-- THE TIED CARD OF 'thicketlaw.Grows'. -/
def growsCard : Claim7 := { stood := { row := growsRow, standIns := [], harness := (true, "33411e03c5f2884f9bb58066ffa33b407d3d92d55cca09c31043876e27824a14"), looks := false }, kinds := [], alts := [], goes := true, laidByText := true, laidKinds := [.data, .data], laidTests := true, laidLooks := .later }
def GrowsCardSaid : Prop := Claim7.holds Tryz.pinned (.plain (OpenSpec.ofChange growsSpec)) growsCard

/-- THE TIED CARD OF 'thicketkeep.Complete'. -/
def completeCard : Claim7 := { stood := { row := completeRow, standIns := [], harness := (true, "33411e03c5f2884f9bb58066ffa33b407d3d92d55cca09c31043876e27824a14"), looks := false }, kinds := [], alts := [], goes := true, laidByText := true, laidKinds := [.data, .data], laidTests := true, laidLooks := .later }
def CompleteCardSaid : Prop := Claim7.holds Tryz.pinned (.plain (OpenSpec.ofChange completeSpec)) completeCard

/-- THE TIED CARD OF 'thicketkeep.Chained'. -/
def chainedCard : Claim7 := { stood := { row := chainedRow, standIns := [], harness := (true, "33411e03c5f2884f9bb58066ffa33b407d3d92d55cca09c31043876e27824a14"), looks := false }, kinds := [], alts := [], goes := true, laidByText := true, laidKinds := [.data, .data], laidTests := true, laidLooks := .later }
def ChainedCardSaid : Prop := Claim7.holds Tryz.pinned (.plain (OpenSpec.ofChange chainedSpec)) chainedCard

/-- THE TIED CARD OF 'thicketkeep.Still'. -/
def stillCard : Claim7 := { stood := { row := stillRow, standIns := [], harness := (true, "33411e03c5f2884f9bb58066ffa33b407d3d92d55cca09c31043876e27824a14"), looks := false }, kinds := [], alts := [], goes := true, laidByText := true, laidKinds := [.data, .data], laidTests := true, laidLooks := .later }
def StillCardSaid : Prop := Claim7.holds Tryz.pinned (.plain (OpenSpec.ofChange stillSpec)) stillCard

/-- THE TIED CARD OF 'thicketkeep.Little'. -/
def littleCard : Claim7 := { stood := { row := littleRow, standIns := [], harness := (true, "33411e03c5f2884f9bb58066ffa33b407d3d92d55cca09c31043876e27824a14"), looks := false }, kinds := [], alts := [], goes := true, laidByText := true, laidKinds := [.data, .data], laidTests := true, laidLooks := .later }
def LittleCardSaid : Prop := Claim7.holds Tryz.pinned (.plain (OpenSpec.ofChange littleSpec)) littleCard

/-- THE TIED CARD OF 'thicketlaw.All'. -/
def allCard : Claim7 := { stood := { row := allRow, standIns := [], harness := (true, "33411e03c5f2884f9bb58066ffa33b407d3d92d55cca09c31043876e27824a14"), looks := false }, kinds := [], alts := [], goes := true, laidByText := true, laidKinds := [.data, .data], laidTests := true, laidLooks := .later }
def AllCardSaid : Prop := Claim7.holds Tryz.pinned (.plain (OpenSpec.ofChange allSpec)) allCard

/-- THE TIED CARD OF 'thicketkeep.Both'. -/
def bothCard : Claim7 := { stood := { row := bothRow, standIns := [], harness := (true, "33411e03c5f2884f9bb58066ffa33b407d3d92d55cca09c31043876e27824a14"), looks := false }, kinds := [], alts := [], goes := true, laidByText := true, laidKinds := [.data, .data], laidTests := true, laidLooks := .later }
def BothCardSaid : Prop := Claim7.holds Tryz.pinned (.plain (OpenSpec.ofChange bothSpec)) bothCard

/-- THE SECOND FORM's CARD OF 'thicketlaw.Grows'. -/
def growsUptoCard : Claim7 := { stood := { row := growsUptoRow, standIns := [], harness := (true, "33411e03c5f2884f9bb58066ffa33b407d3d92d55cca09c31043876e27824a14"), looks := false }, kinds := [], alts := [], goes := true, laidByText := true, laidKinds := [.data, .data], laidTests := true, laidLooks := .later }
def GrowsUptoCardSaid : Prop := Claim7.holds Tryz.pinned (.plain (OpenSpec.upto growsSpec)) growsUptoCard

/-- THE SECOND FORM's CARD OF 'thicketkeep.Complete'. -/
def completeUptoCard : Claim7 := { stood := { row := completeUptoRow, standIns := [], harness := (true, "33411e03c5f2884f9bb58066ffa33b407d3d92d55cca09c31043876e27824a14"), looks := false }, kinds := [], alts := [], goes := true, laidByText := true, laidKinds := [.data, .data], laidTests := true, laidLooks := .later }
def CompleteUptoCardSaid : Prop := Claim7.holds Tryz.pinned (.plain (OpenSpec.upto completeSpec)) completeUptoCard

/-- THE SECOND FORM's CARD OF 'thicketkeep.Chained'. -/
def chainedUptoCard : Claim7 := { stood := { row := chainedUptoRow, standIns := [], harness := (true, "33411e03c5f2884f9bb58066ffa33b407d3d92d55cca09c31043876e27824a14"), looks := false }, kinds := [], alts := [], goes := true, laidByText := true, laidKinds := [.data, .data], laidTests := true, laidLooks := .later }
def ChainedUptoCardSaid : Prop := Claim7.holds Tryz.pinned (.plain (OpenSpec.upto chainedSpec)) chainedUptoCard

/-- THE SECOND FORM's CARD OF 'thicketkeep.Still'. -/
def stillUptoCard : Claim7 := { stood := { row := stillUptoRow, standIns := [], harness := (true, "33411e03c5f2884f9bb58066ffa33b407d3d92d55cca09c31043876e27824a14"), looks := false }, kinds := [], alts := [], goes := true, laidByText := true, laidKinds := [.data, .data], laidTests := true, laidLooks := .later }
def StillUptoCardSaid : Prop := Claim7.holds Tryz.pinned (.plain (OpenSpec.upto stillSpec)) stillUptoCard

/-- THE SECOND FORM's CARD OF 'thicketkeep.Little'. -/
def littleUptoCard : Claim7 := { stood := { row := littleUptoRow, standIns := [], harness := (true, "33411e03c5f2884f9bb58066ffa33b407d3d92d55cca09c31043876e27824a14"), looks := false }, kinds := [], alts := [], goes := true, laidByText := true, laidKinds := [.data, .data], laidTests := true, laidLooks := .later }
def LittleUptoCardSaid : Prop := Claim7.holds Tryz.pinned (.plain (OpenSpec.upto littleSpec)) littleUptoCard

/-- THE SECOND FORM's CARD OF 'thicketlaw.All'. -/
def allUptoCard : Claim7 := { stood := { row := allUptoRow, standIns := [], harness := (true, "33411e03c5f2884f9bb58066ffa33b407d3d92d55cca09c31043876e27824a14"), looks := false }, kinds := [], alts := [], goes := true, laidByText := true, laidKinds := [.data, .data], laidTests := true, laidLooks := .later }
def AllUptoCardSaid : Prop := Claim7.holds Tryz.pinned (.plain (OpenSpec.upto allSpec)) allUptoCard

/-- THE SECOND FORM's CARD OF 'thicketkeep.Both'. -/
def bothUptoCard : Claim7 := { stood := { row := bothUptoRow, standIns := [], harness := (true, "33411e03c5f2884f9bb58066ffa33b407d3d92d55cca09c31043876e27824a14"), looks := false }, kinds := [], alts := [], goes := true, laidByText := true, laidKinds := [.data, .data], laidTests := true, laidLooks := .later }
def BothUptoCardSaid : Prop := Claim7.holds Tryz.pinned (.plain (OpenSpec.upto bothSpec)) bothUptoCard
end Rows
end Go.Proofs.YtghpcgagijhlaaaGreatDoor
