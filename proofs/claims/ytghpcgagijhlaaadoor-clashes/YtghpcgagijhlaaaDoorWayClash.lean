/- P5 on plain bytes: of two ways that come out at one root and say different things two texts come out that are not the same and have one digest. Plain facts, no condition but the widths. -/
import Derived.Test.YtghpcgagijhlaaaDoorWay
namespace Go.Proofs.YtghpcgagijhlaaaDoor
open Go.RowKit Sha

theorem textAt_node {k : Nat} {idx : List UInt8} {p : PW} {d : Nat} (h : d < p.sibs.length) :
    p.textAt k idx d = if bitN idx d = 0 then 2 :: (dg k (p.textAt k idx (d + 1)) ++ p.sibs.getD d []) else 2 :: (p.sibs.getD d [] ++ dg k (p.textAt k idx (d + 1))) := by
  unfold PW.textAt
  have e1 : p.sibs.length - d = (p.sibs.length - (d + 1)) + 1 := by omega
  have e2 : p.sibs.length - 1 - (p.sibs.length - (d + 1)) = d := by omega
  rw [e1, PW.up, e2]
theorem textAt_end {k : Nat} {idx : List UInt8} {p : PW} {d : Nat} (h : p.sibs.length ≤ d) : p.textAt k idx d = p.endText k idx := by
  unfold PW.textAt
  rw [show p.sibs.length - d = 0 from by omega, PW.up]

/-- what a proof that is one keeps to besides, if it ends at another's leaf -/
theorem parse_two {k : Nat} {idx s : List UInt8} {p : PW} (h : parse k idx s = some p) (h2 : p.kind = 2) : p.other.length = 32 ∧ p.other ≠ idx := by
  unfold parse at h
  split at h
  · cases h
  · cases hS : sibsTo k s (depthOf s) with
    | none => rw [hS] at h; cases h
    | some q =>
      rw [hS, Option.bind_some] at h
      unfold endOf at h
      split at h
      · split at h
        · simp only [Option.some.injEq] at h; subst h; cases h2
        · cases h
      · split at h
        · split at h
          · simp only [Option.some.injEq] at h; subst h; cases h2
          · cases h
        · split at h
          · rename_i h3
            simp only [Option.some.injEq] at h; subst h
            exact ⟨by rw [List.length_take, h3.1]; omega, h3.2.1⟩
          · cases h

/-- the two texts -/
def clashOf (k : Nat) (idx : List UInt8) (p q : PW) : List UInt8 × List UInt8 :=
  match (List.range (min p.sibs.length q.sibs.length + 1)).find? (fun d => p.textAt k idx d != q.textAt k idx d) with
  | some d => (p.textAt k idx d, q.textAt k idx d)
  | none => (4 :: p.value, 4 :: q.value)

theorem dg_below {k : Nat} {idx : List UInt8} {p q : PW} (hk : k ≤ 32) (hp : p.Ok k) (hq : q.Ok k) {d : Nat} (h1 : d < p.sibs.length) (h2 : d < q.sibs.length) (h : p.textAt k idx d = q.textAt k idx d) :
    dg k (p.textAt k idx (d + 1)) = dg k (q.textAt k idx (d + 1)) := by
  rw [textAt_node h1, textAt_node h2] at h
  have l1 := dg_length k (p.textAt k idx (d + 1)) hk
  have l2 := dg_length k (q.textAt k idx (d + 1)) hk
  have s1 : (p.sibs.getD d []).length = k := by
    rw [List.getD_eq_getElem?_getD, List.getElem?_eq_getElem h1]
    exact hp.sib _ (List.getElem_mem h1)
  have s2 : (q.sibs.getD d []).length = k := by
    rw [List.getD_eq_getElem?_getD, List.getElem?_eq_getElem h2]
    exact hq.sib _ (List.getElem_mem h2)
  by_cases hb : bitN idx d = 0
  · rw [if_pos hb, if_pos hb, List.cons.injEq] at h
    exact (List.append_inj h.2 (by rw [l1, l2])).1
  · rw [if_neg hb, if_neg hb, List.cons.injEq] at h
    exact (List.append_inj h.2 (by rw [s1, s2])).2

theorem end_head {k : Nat} {idx : List UInt8} {p : PW} : ∃ b r, p.endText k idx = b :: r ∧ b ≠ 2 := by
  unfold PW.endText
  split
  · exact ⟨_, _, rfl, by decide⟩
  · split
    · exact ⟨_, _, rfl, by decide⟩
    · exact ⟨_, _, rfl, by decide⟩
theorem node_head {k : Nat} {idx : List UInt8} {p : PW} {d : Nat} (h : d < p.sibs.length) : ∃ r, p.textAt k idx d = 2 :: r := by
  rw [textAt_node h]
  split
  · exact ⟨_, rfl⟩
  · exact ⟨_, rfl⟩

/-- two ends of one text that say different things -/
theorem end_clash {k : Nat} {idx : List UInt8} {p q : PW} (hi : idx.length = 32) (hp2 : p.kind = 2 → p.other.length = 32 ∧ p.other ≠ idx) (hq2 : q.kind = 2 → q.other.length = 32 ∧ q.other ≠ idx)
    (h : p.endText k idx = q.endText k idx) (hs : p.said ≠ q.said) : p.value ≠ q.value ∧ dg k (4 :: p.value) = dg k (4 :: q.value) := by
  have key : ∀ a b : PW, (b.kind = 2 → b.other.length = 32 ∧ b.other ≠ idx) → a.kind = 1 → a.endText k idx = b.endText k idx → b.kind = 1 := by
    intro a b hb2 ha he
    rw [PW.endText, PW.endText, if_pos ha] at he
    by_cases h1 : b.kind = 1
    · exact h1
    · rw [if_neg h1] at he
      by_cases h2 : b.kind = 2
      · rw [if_pos h2, List.cons.injEq] at he
        have := (List.append_inj he.2 (by rw [hi, (hb2 h2).1])).1
        exact absurd this.symm (hb2 h2).2
      · rw [if_neg h2, List.cons.injEq] at he
        exact absurd he.1 (by decide)
  by_cases h1 : p.kind = 1
  · have h2 := key p q hq2 h1 h
    rw [PW.endText, PW.endText, if_pos h1, if_pos h2, List.cons.injEq] at h
    refine ⟨fun hv => hs ?_, (List.append_inj h.2 rfl).2⟩
    rw [PW.said, PW.said, if_pos h1, if_pos h2, hv]
  · by_cases h2 : q.kind = 1
    · exact absurd (key q p hp2 h2 h.symm) h1
    · exact absurd (by rw [PW.said, PW.said, if_neg h1, if_neg h2]) hs

theorem clash_sound {k : Nat} {idx : List UInt8} {p q : PW} (hk : k ≤ 32) (hi : idx.length = 32) (hp : p.Ok k) (hq : q.Ok k) (hp2 : p.kind = 2 → p.other.length = 32 ∧ p.other ≠ idx) (hq2 : q.kind = 2 → q.other.length = 32 ∧ q.other ≠ idx)
    (hr : p.root k idx = q.root k idx) (hs : p.said ≠ q.said) : (clashOf k idx p q).1 ≠ (clashOf k idx p q).2 ∧ dg k (clashOf k idx p q).1 = dg k (clashOf k idx p q).2 := by
  have step : ∀ d, (∀ j, j < d → p.textAt k idx j = q.textAt k idx j) → d ≤ min p.sibs.length q.sibs.length → dg k (p.textAt k idx d) = dg k (q.textAt k idx d) := by
    intro d hd hm
    cases d with
    | zero => exact hr
    | succ d => exact dg_below hk hp hq (by omega) (by omega) (hd d (by omega))
  unfold clashOf
  cases hf : (List.range (min p.sibs.length q.sibs.length + 1)).find? (fun d => p.textAt k idx d != q.textAt k idx d) with
  | some d =>
    rw [List.find?_range_eq_some] at hf
    obtain ⟨h1, h2, h3⟩ := hf
    have h2 := List.mem_range.1 h2
    refine ⟨by simpa using h1, step d (fun j hj => by simpa using h3 j hj) (by omega)⟩
  | none =>
    rw [List.find?_range_eq_none] at hf
    have all : ∀ d, d ≤ min p.sibs.length q.sibs.length → p.textAt k idx d = q.textAt k idx d := fun d hd => by simpa using hf d (by omega)
    have heq : p.sibs.length = q.sibs.length := by
      rcases Nat.lt_trichotomy p.sibs.length q.sibs.length with h | h | h
      · have h1 := all p.sibs.length (by omega)
        obtain ⟨r, h2⟩ := node_head (k := k) (idx := idx) h
        obtain ⟨b, r', h3, h4⟩ := end_head (k := k) (idx := idx) (p := p)
        rw [textAt_end (Nat.le_refl _), h3, h2, List.cons.injEq] at h1
        exact absurd h1.1 h4
      · exact h
      · have h1 := all q.sibs.length (by omega)
        obtain ⟨r, h2⟩ := node_head (k := k) (idx := idx) h
        obtain ⟨b, r', h3, h4⟩ := end_head (k := k) (idx := idx) (p := q)
        rw [textAt_end (p := q) (Nat.le_refl _), h3, h2, List.cons.injEq] at h1
        exact absurd h1.1.symm h4
    have h1 := all p.sibs.length (by omega)
    rw [textAt_end (Nat.le_refl _), textAt_end (p := q) (by omega)] at h1
    obtain ⟨h2, h3⟩ := end_clash hi hp2 hq2 h1 hs
    exact ⟨by simpa using h2, h3⟩
end Go.Proofs.YtghpcgagijhlaaaDoor
