/- P5 on plain bytes: what Clash answers. Plain facts, no condition. -/
import Derived.Test.YtghpcgagijhlaaaDoorWayClash
import Derived.Test.YtghpcgagijhlaaaDoorRefSaid
namespace Go.Proofs.YtghpcgagijhlaaaDoor
open Go.RowKit Sha

/-- the first depth at which both differ -/
theorem clashOf_at {k : Nat} {idx : List UInt8} {p q : PW} {d : Nat} (h : ∀ j, j < d → p.textAt k idx j = q.textAt k idx j) (h1 : d ≤ p.sibs.length) (h2 : d ≤ q.sibs.length) (hne : p.textAt k idx d ≠ q.textAt k idx d) :
    clashOf k idx p q = (p.textAt k idx d, q.textAt k idx d) := by
  have : (List.range (min p.sibs.length q.sibs.length + 1)).find? (fun d => p.textAt k idx d != q.textAt k idx d) = some d := by
    rw [List.find?_range_eq_some]
    exact ⟨by simpa using hne, List.mem_range.2 (by omega), fun j hj => by simpa using h j hj⟩
  rw [clashOf, this]
theorem clashOf_none {k : Nat} {idx : List UInt8} {p q : PW} (h : ∀ j, j ≤ p.sibs.length → j ≤ q.sibs.length → p.textAt k idx j = q.textAt k idx j) :
    clashOf k idx p q = (4 :: p.value, 4 :: q.value) := by
  have : (List.range (min p.sibs.length q.sibs.length + 1)).find? (fun d => p.textAt k idx d != q.textAt k idx d) = none := by
    rw [List.find?_range_eq_none]
    exact fun j hj => by simpa using h j (by omega) (by omega)
  rw [clashOf, this]

/-- what Clash answers: two texts, an error's number -/
def clashed (root idx s t : List UInt8) : List UInt8 × List UInt8 × Nat :=
  if lookErr root idx s ≠ 0 then ([], [], lookErr root idx s)
  else if lookErr root idx t ≠ 0 then ([], [], lookErr root idx t)
  else match parse root.length idx s, parse root.length idx t with
    | some p, some q => if p.said = q.said then ([], [], 1) else ((clashOf root.length idx p q).1, (clashOf root.length idx p q).2, 0)
    | _, _ => ([], [], 2)
theorem clashed_one {root idx s t : List UInt8} (h : lookErr root idx s ≠ 0) : clashed root idx s t = ([], [], lookErr root idx s) := by rw [clashed, if_pos h]
theorem clashed_two {root idx s t : List UInt8} (h : lookErr root idx s = 0) (h2 : lookErr root idx t ≠ 0) : clashed root idx s t = ([], [], lookErr root idx t) := by rw [clashed, if_neg (by omega), if_pos h2]
theorem clashed_same {root idx s t : List UInt8} {p q : PW} (h : lookErr root idx s = 0) (h2 : lookErr root idx t = 0) (hp : parse root.length idx s = some p) (hq : parse root.length idx t = some q) (hs : p.said = q.said) : clashed root idx s t = ([], [], 1) := by
  rw [clashed, if_neg (by omega), if_neg (by omega), hp, hq]; exact if_pos hs
theorem clashed_texts {root idx s t : List UInt8} {p q : PW} (h : lookErr root idx s = 0) (h2 : lookErr root idx t = 0) (hp : parse root.length idx s = some p) (hq : parse root.length idx t = some q) (hs : p.said ≠ q.said) :
    clashed root idx s t = ((clashOf root.length idx p q).1, (clashOf root.length idx p q).2, 0) := by
  rw [clashed, if_neg (by omega), if_neg (by omega), hp, hq]; exact if_neg hs
theorem lookErr_argc {root idx s : List UInt8} (h : lookErr root idx s ≠ 1) : ¬ (root.length < 1 ∨ 32 < root.length ∨ idx.length ≠ 32) := fun h' => h (lookErr_arg h')
/-- the form of the two texts -/
theorem clashOf_len {k : Nat} {idx : List UInt8} {p q : PW} (hk : k ≤ 32) (hi : idx.length = 32) (hp : p.Ok k) (hq : q.Ok k) : (clashOf k idx p q).1.length ≤ 101 ∧ (clashOf k idx p q).2.length ≤ 101 := by
  unfold clashOf
  split
  · refine ⟨?_, ?_⟩
    · have := up_length k idx p hk hi hp (p.sibs.length - (by assumption)) (by omega)
      unfold PW.textAt; dsimp only; omega
    · have := up_length k idx q hk hi hq (q.sibs.length - (by assumption)) (by omega)
      unfold PW.textAt; dsimp only; omega
  · have h1 := hp.value; have h2 := hq.value
    exact ⟨by simp; omega, by simp; omega⟩
end Go.Proofs.YtghpcgagijhlaaaDoor
