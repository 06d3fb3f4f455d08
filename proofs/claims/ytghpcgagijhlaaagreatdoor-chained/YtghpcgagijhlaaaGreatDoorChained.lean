/- Of directories over the engine that grows (package grow), whatever epochs, width and batches are handed in, heads are chained by the document's rule, over forgotten epochs too, and the root of a state hangs on the state alone (the law thicketkeep.Chained answers true, whatever is drawn, its goroutines ended or left). Conditions: the statement's own alone. -/
import Derived.Test.YtghpcgagijhlaaaGreatDoorC09
namespace Go.Proofs.YtghpcgagijhlaaaGreatDoor
theorem chained_holds : Rows.ChainedCardSaid := Go.Proofs.Zq.chained_holds
end Go.Proofs.YtghpcgagijhlaaaGreatDoor
#print axioms Go.Proofs.YtghpcgagijhlaaaGreatDoor.chained_holds
