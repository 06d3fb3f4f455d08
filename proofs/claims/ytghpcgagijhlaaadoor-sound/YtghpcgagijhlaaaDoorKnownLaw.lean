/- The document's example of a digest and of a proof, by thicketkeep.known: it returns true; nothing that was in memory turns; the two tables lie in memory as the program's text lays them. -/
import Derived.Test.YtghpcgagijhlaaaDoorKeep2
import Derived.Test.YtghpcgagijhlaaaDoorProofsLaw
namespace Go.Proofs.YtghpcgagijhlaaaDoor
open Go.RowKit Sha

set_option maxRecDepth 100000 in
set_option maxHeartbeats 1000000 in
theorem known_any (w : World) (hT : Tabs w) : Calls Tryd.prog 15 #[] w fun e w' => e = .returned (.bool true) ∧ Below w.heap.size w w' := by
  have HT : Hid (Tabs w) := hT
  clear hT
  go_enter Tryd.func15, Tryd.ntmps15
  go_wp2_with fail
  refine (digest_yes 2 ⟨#[97, 98, 99]⟩ w (by omega) (by omega) (by decide) HT.out).mono ?_
  rintro e w1 ⟨rfl, hb1⟩
  have B1 : Hid (Below w.heap.size w w1) := hb1
  clear hb1
  rw [show dig 2 (⟨#[97, 98, 99]⟩ : ByteArray).data.toList = dig 2 [97, 98, 99] from rfl, dig_abc2]
  go_wp2_with fail
  refine (indexOf_any 0 w1 (by omega) (by omega)).mono ?_
  rintro e w2 ⟨rfl, hb2⟩
  have B2 := below_then' B1.out hb2 B1.out.size
  clear hb2 B1
  have hIl := idxOf_length 0
  generalize idxOf 0 = I at *
  go_wp2_with fail
  refine (pVerify_any ⟨#[110, 52]⟩ ⟨I.toArray⟩ ⟨#[0, 0, 0]⟩ w2 (by decide) (by decide) (HT.out.below B2.out (Nat.le_refl _))).mono ?_
  rintro e w3 ⟨hb3, rfl⟩
  rw [show verdict (⟨#[110, 52]⟩ : ByteArray).data.toList (⟨I.toArray⟩ : ByteArray).data.toList (⟨#[0, 0, 0]⟩ : ByteArray).data.toList = (2, [], 0) from shown_verdict _ hIl]
  have B3 := below_then' B2.out hb3 B2.out.size
  clear hb3 B2
  simp only [verdictCells]
  go_wp2
  go_ret
  exact ⟨rfl, B3.out.alloc B3.out.size _⟩
end Go.Proofs.YtghpcgagijhlaaaDoor
