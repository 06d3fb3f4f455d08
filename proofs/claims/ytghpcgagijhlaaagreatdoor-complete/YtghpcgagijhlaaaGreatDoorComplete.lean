/- Of a directory over the engine that grows (package grow), whatever epochs, width, window and questions are handed in, the proofs of each epoch that is kept are taken and say just what stands there, and the directory lists just that (the law thicketkeep.Complete answers true, whatever is drawn, its goroutines ended or left). Conditions: the statement's own alone. -/
import Derived.Test.YtghpcgagijhlaaaGreatDoorP09
namespace Go.Proofs.YtghpcgagijhlaaaGreatDoor
theorem complete_holds : Rows.CompleteCardSaid := Go.Proofs.Zq.complete_holds
end Go.Proofs.YtghpcgagijhlaaaGreatDoor
#print axioms Go.Proofs.YtghpcgagijhlaaaGreatDoor.complete_holds
