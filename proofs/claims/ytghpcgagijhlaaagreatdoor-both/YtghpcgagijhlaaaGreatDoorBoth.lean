/- Of a directory over the other engine (package again), whatever epochs, width, window and questions are handed in, the proofs of each epoch that is kept are taken and say just what stands there, and the directory lists just that (the law thicketkeep.Both answers true, whatever is drawn, its goroutines ended or left). Conditions: the statement's own alone. -/
import Derived.Test.YtghpcgagijhlaaaGreatDoorP44
namespace Go.Proofs.YtghpcgagijhlaaaGreatDoor
theorem both_holds : Rows.BothCardSaid := Go.Proofs.Zq.both_holds
end Go.Proofs.YtghpcgagijhlaaaGreatDoor
#print axioms Go.Proofs.YtghpcgagijhlaaaGreatDoor.both_holds
