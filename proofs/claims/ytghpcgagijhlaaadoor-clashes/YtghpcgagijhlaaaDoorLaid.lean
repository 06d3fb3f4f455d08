/- What the rows' condition on the two listed tables gives: the tables lie in memory as the plain function has them; and a start that meets the condition. -/
import Derived.Test.YtghpcgagijhlaaaDoorOf
import Derived.Test.YtghpcgagijhlaaaDoorRows
import Derived.ProofKit
import Derived.LaidMore
import Derived.Lib.LaidTab
import Derived.OpenShut
import Derived.Stop.Joined
namespace Go.Proofs.YtghpcgagijhlaaaDoor
open Go.ChangeShapes Go.WideShapes Go.ChangeAt Go.RowKit

def laid2 : List (String × DataW Unit) := [("thicket/digest.squareRoots", Rows.laid_thicket_digest_squareRoots), ("thicket/digest.cubeRoots", Rows.laid_thicket_digest_cubeRoots)]
theorem own : ownKnob Tryd.prog.godebug = none := by kernel_rfl
theorem gSquare : Tryd.prog.globalNamed "thicket/digest.squareRoots" = some 0 := by kernel_rfl
theorem gCube : Tryd.prog.globalNamed "thicket/digest.cubeRoots" = some 1 := by kernel_rfl
theorem tSquare : (Tryd.prog.globals[0]?).map (·.type) = some 69 := by kernel_rfl
theorem tCube : (Tryd.prog.globals[1]?).map (·.type) = some 84 := by kernel_rfl

theorem door_met (os : Os) (args : Array Value) : laidMetH Tryd.prog laid2 ((World.doorLaid Tryd.prog 400 os).forCall (fun _ _ => 0) ⟨#[], args, []⟩).memory :=
  laidMetH_of_parts3 (fuel := 8) (laidMet_of_run' 8 (by kernel_rfl) (by kernel_rfl)) (by kernel_rfl) (by kernel_rfl)

def squares : List Int := [1779033703, 3144134277, 1013904242, 2773480762, 1359893119, 2600822924, 528734635, 1541459225]
def cubes : List Int := kList.map fun (n : Nat) => (n : Int)
theorem squares_data : (Rows.laid_thicket_digest_squareRoots : DataW Unit) = Lib.tabData .u32 squares := rfl
theorem cubes_data : (Rows.laid_thicket_digest_cubeRoots : DataW Unit) = Lib.tabData .u32 cubes := by kernel_rfl

theorem tabs_of_laid {W : World} (h : laidMetH Tryd.prog laid2 W) : Tabs W := by
  rw [MakeChecks.laidMetH_plain _ _ _ (by kernel_rfl)] at h
  obtain ⟨ps, ⟨g0, t0, cs0, f0, p0, q0, hg0, ht0, hv0, hd0, ⟨g1, t1, cs1, f1, p1, q1, hg1, ht1, hv1, hd1, _, _⟩, _⟩, _, _⟩ := h
  obtain rfl := Option.some.inj (gSquare.symm.trans hg0)
  obtain rfl := Option.some.inj (gCube.symm.trans hg1)
  obtain rfl := Option.some.inj (tSquare.symm.trans ht0)
  obtain rfl := Option.some.inj (tCube.symm.trans ht1)
  rw [squares_data] at hd0
  rw [cubes_data] at hd1
  have c0 := Lib.cells_of_tab Tryd.underlying69 Tryd.underlying68 (by kernel_rfl) (by kernel_rfl) hd0
  have c1 := Lib.cells_of_tab Tryd.underlying84 Tryd.underlying68 (by kernel_rfl) (by kernel_rfl) hd1
  have v0 := World.var?_cell hg0 hv0
  have v1 := World.var?_cell hg1 hv1
  have s0 : H0.cells.toList = squares.map fun z => Value.int .u32 z := by kernel_rfl
  have s1 : ∀ t, t < 64 → (cubes.map fun z => Value.int .u32 z)[t]? = some (.int .u32 (Sha.V (K t))) := by
    intro t ht
    have e : (cubes.map fun z => Value.int .u32 z).toArray = row .u32 K := by kernel_rfl
    have := row_get .u32 K t ht
    rw [← e] at this
    simpa using this
  have a0 : ∀ j v, (squares.map fun z => Value.int .u32 z)[j]? = some v → W.cell? ⟨0, j, none⟩ = some v := fun j v hv => by
    rw [v0 j]
    rw [← c0] at hv
    simpa using hv
  have a1 : ∀ t : Nat, t < 64 → W.cell? ⟨1, t, none⟩ = some (.int .u32 (Sha.V (K t))) := fun t ht => by
    rw [v1 t]
    have := s1 t ht
    rw [← c1] at this
    simpa using this
  refine ⟨⟨?_, a1⟩, ?_, fun j v hv => ?_⟩
  · exact World.block_lt_of_cell? W ⟨_, _, none⟩ (a1 0 (by omega))
  · exact World.block_lt_of_cell? W ⟨_, _, none⟩ (a0 0 (.int .u32 1779033703) rfl)
  · rw [s0] at hv
    rw [Nat.zero_add]
    exact a0 j v hv
end Go.Proofs.YtghpcgagijhlaaaDoor
