/- Of a directory over the engine that grows (package grow), whatever is applied, refused or forgotten since, the root, the head and the proof of an epoch that is kept are answered as they were before (the law thicketkeep.Still answers true, whatever is drawn, its goroutines ended or left). Conditions: the statement's own alone. -/
import Derived.Test.YtghpcgagijhlaaaGreatDoorT09
namespace Go.Proofs.YtghpcgagijhlaaaGreatDoor
theorem still_holds : Rows.StillCardSaid := Go.Proofs.Zq.still_holds
end Go.Proofs.YtghpcgagijhlaaaGreatDoor
#print axioms Go.Proofs.YtghpcgagijhlaaaGreatDoor.still_holds
