/- Five arguments, opened and shut: facts on the form's readings. -/
import Derived.Test.YtghpcgagijhlaaaDoorRows
import Derived.OpenShut
import Derived.Carry
import Derived.ChangeShapes
namespace Go.Proofs.YtghpcgagijhlaaaDoor
open Go.ChangeShapes Go.WideShapes Go.RowKit

section
variable {H : Type} {enc : TypeId × Value → H} {P : Program} {w : World} {base : Nat} {spare : Nat → Bool} {held : Bool}
/-- five arguments, opened -/
theorem trodAll_5 {t0 t1 t2 t3 t4 : TypeId} {args : Array Value} {ds : List (DataW H)} {ps : List MemPlace} (h : DataW.TrodAll enc P w base spare held [t0, t1, t2, t3, t4] args.toList ds ps) :
    ∃ v0 v1 v2 v3 v4 d0 d1 d2 d3 d4 p0 p1 p2 p3 p4, args = #[v0, v1, v2, v3, v4] ∧ ds = [d0, d1, d2, d3, d4] ∧ ps = p0 ++ (p1 ++ (p2 ++ (p3 ++ p4))) ∧ DataW.Trod enc P w base spare held t0 v0 d0 p0 ∧ DataW.Trod enc P w base spare held t1 v1 d1 p1 ∧ DataW.Trod enc P w base spare held t2 v2 d2 p2 ∧ DataW.Trod enc P w base spare held t3 v3 d3 p3 ∧ DataW.Trod enc P w base spare held t4 v4 d4 p4 := by
  obtain ⟨v0, r0, d0, e0, p0, q0, hargs, rfl, rfl, g0, f0⟩ := trodAll_cons h
  obtain ⟨v1, r1, d1, e1, p1, q1, rfl, rfl, rfl, g1, f1⟩ := trodAll_cons f0
  obtain ⟨v2, r2, d2, e2, p2, q2, rfl, rfl, rfl, g2, f2⟩ := trodAll_cons f1
  obtain ⟨v3, r3, d3, e3, p3, q3, rfl, rfl, rfl, g3, f3⟩ := trodAll_cons f2
  obtain ⟨v4, r4, d4, e4, p4, q4, rfl, rfl, rfl, g4, f4⟩ := trodAll_cons f3
  obtain ⟨rfl, rfl, rfl⟩ := trodAll_nil f4
  exact ⟨v0, v1, v2, v3, v4, d0, d1, d2, d3, d4, p0, p1, p2, p3, p4, by cases args; simp_all, rfl, by simp, g0, g1, g2, g3, g4⟩
theorem trodAll_mk_5 {t0 t1 t2 t3 t4 : TypeId} {v0 v1 v2 v3 v4 : Value} {d0 d1 d2 d3 d4 : DataW H} {p0 p1 p2 p3 p4 : List MemPlace} (g0 : DataW.Trod enc P w base spare held t0 v0 d0 p0) (g1 : DataW.Trod enc P w base spare held t1 v1 d1 p1) (g2 : DataW.Trod enc P w base spare held t2 v2 d2 p2) (g3 : DataW.Trod enc P w base spare held t3 v3 d3 p3) (g4 : DataW.Trod enc P w base spare held t4 v4 d4 p4) :
    DataW.TrodAll enc P w base spare held [t0, t1, t2, t3, t4] [v0, v1, v2, v3, v4] [d0, d1, d2, d3, d4] (p0 ++ (p1 ++ (p2 ++ (p3 ++ p4)))) :=
  ⟨p0, p1 ++ (p2 ++ (p3 ++ p4)), g0, trodAll_mk4 g1 g2 g3 g4, rfl⟩
end
end Go.Proofs.YtghpcgagijhlaaaDoor
