/- Of two directories over the engine that grows (package grow), asked in turns by whatever script, every answer (codes, epochs, roots, heads, lists, proofs byte by byte, cells) is the one that the document gives, worked out by its plain reference (the law thicketlaw.Grows answers true, whatever is drawn, its goroutines ended or left, for scripts of a bulk of at most 1048576: the second form). Conditions: the statement's own alone. -/
import Derived.Test.YtghpcgagijhlaaaGreatDoorG14
namespace Go.Proofs.YtghpcgagijhlaaaGreatDoor
theorem grows_holds : Rows.GrowsUptoCardSaid := Go.Proofs.Zq.grows_holds
end Go.Proofs.YtghpcgagijhlaaaGreatDoor
#print axioms Go.Proofs.YtghpcgagijhlaaaGreatDoor.grows_holds
