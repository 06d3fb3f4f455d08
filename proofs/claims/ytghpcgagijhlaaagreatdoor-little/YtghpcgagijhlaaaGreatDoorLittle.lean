/- Of a directory over the engine that grows (package grow), whatever batches are handed in, a batch makes at most 257 cells for each of its updates, one that changes nothing none; when one entry alone is left and all epochs ahead are forgotten there is one cell, and when none is, none (the law thicketkeep.Little answers true, whatever is drawn, its goroutines ended or left). Conditions: the statement's own alone. -/
import Derived.Test.YtghpcgagijhlaaaGreatDoorL09
namespace Go.Proofs.YtghpcgagijhlaaaGreatDoor
theorem little_holds : Rows.LittleCardSaid := Go.Proofs.Zq.little_holds
end Go.Proofs.YtghpcgagijhlaaaGreatDoor
#print axioms Go.Proofs.YtghpcgagijhlaaaGreatDoor.little_holds
