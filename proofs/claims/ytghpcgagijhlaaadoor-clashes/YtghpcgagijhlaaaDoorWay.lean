/- P4 as plain functions on bytes: reading a proof, the digests from its end up to the root, and what Verify answers. Plain definitions and facts, no condition. -/
import Derived.Test.YtghpcgagijhlaaaDoorRefBit
namespace Go.Proofs.YtghpcgagijhlaaaDoor
open Go.RowKit Sha

/-- the digest of some bytes, k bytes of it -/
def dg (k : Nat) (l : List UInt8) : List UInt8 := (sha l).take k
theorem dg_length (k : Nat) (l : List UInt8) (h : k ≤ 32) : (dg k l).length = k := by rw [dg, List.length_take, sha_length]; omega
theorem dig_dg (k : Nat) (l : List UInt8) : dig k l = ⟨(dg k l).toArray⟩ := rfl

/-- what a proof tells -/
structure PW where
  kind : Nat
  sibs : List (List UInt8)
  value : List UInt8
  other : List UInt8
  digest : List UInt8

def kindOf (s : List UInt8) : Nat := (s.getD 0 0).toNat
def depthOf (s : List UInt8) : Nat := 256 * (s.getD 1 0).toNat + (s.getD 2 0).toNat
def markBytes (s : List UInt8) : Nat := (depthOf s + 7) / 8
def marksOf (s : List UInt8) : List UInt8 := (s.drop 3).take (markBytes s)
/-- the siblings of the first i depths, and where the rest begins -/
def sibsTo (k : Nat) (s : List UInt8) : Nat → Option (List (List UInt8) × Nat)
  | 0 => some ([], 3 + markBytes s)
  | i + 1 => (sibsTo k s i).bind fun p =>
      if bitN (marksOf s) i = 1 then
        if p.2 + k ≤ s.length ∧ (s.drop p.2).take k ≠ dg k [0] then some (p.1 ++ [(s.drop p.2).take k], p.2 + k) else none
      else some (p.1 ++ [dg k [0]], p.2)
/-- no bit from d on to m is set -/
def cleanTo (s : List UInt8) (m : Nat) : Prop := ∀ i, depthOf s ≤ i → i < m → bitN (marksOf s) i = 0
def sameBits (a b : List UInt8) (d : Nat) : Prop := ∀ i, i < d → bitN a i = bitN b i

/-- the end of a proof, from where the rest begins -/
def endOf (k : Nat) (idx s : List UInt8) (S : List (List UInt8)) (rest : List UInt8) : Option PW :=
  if kindOf s = 0 then (if rest = [] then some ⟨0, S, [], [], []⟩ else none)
  else if kindOf s = 1 then (if rest.length ≤ 100 then some ⟨1, S, rest, [], []⟩ else none)
  else if rest.length = 32 + k ∧ rest.take 32 ≠ idx ∧ (List.range (depthOf s)).all (fun i => bitN idx i == bitN (rest.take 32) i) = true then some ⟨2, S, [], rest.take 32, rest.drop 32⟩ else none
/-- a proof read: none: it is none -/
def parse (k : Nat) (idx s : List UInt8) : Option PW :=
  if s.length < 3 ∨ 2 < kindOf s ∨ 256 < depthOf s ∨ s.length < 3 + markBytes s ∨ (List.range (8 * markBytes s)).all (fun i => decide (i < depthOf s) || bitN (marksOf s) i == 0) = false then none
  else (sibsTo k s (depthOf s)).bind fun p => endOf k idx s p.1 (s.drop p.2)

theorem clean_all (s : List UInt8) (m : Nat) : (List.range m).all (fun i => decide (i < depthOf s) || bitN (marksOf s) i == 0) = true ↔ cleanTo s m := by
  rw [List.all_eq_true]
  constructor
  · intro h i h1 h2
    have := h i (List.mem_range.2 h2)
    rw [Bool.or_eq_true, decide_eq_true_eq, beq_iff_eq] at this
    omega
  · intro h i hi
    rw [Bool.or_eq_true, decide_eq_true_eq, beq_iff_eq]
    have := List.mem_range.1 hi
    by_cases h1 : i < depthOf s
    · exact .inl h1
    · exact .inr (h i (by omega) this)
theorem same_all (a b : List UInt8) (d : Nat) : (List.range d).all (fun i => bitN a i == bitN b i) = true ↔ sameBits a b d := by
  rw [List.all_eq_true]
  constructor
  · intro h i hi
    exact beq_iff_eq.1 (h i (List.mem_range.2 hi))
  · intro h i hi
    exact beq_iff_eq.2 (h i (List.mem_range.1 hi))
theorem parse_short {k : Nat} {idx s : List UInt8} (h : s.length < 3 ∨ 2 < kindOf s ∨ 256 < depthOf s ∨ s.length < 3 + markBytes s) : parse k idx s = none := by
  unfold parse; rw [if_pos]
  rcases h with h | h | h | h
  · exact .inl h
  · exact .inr (.inl h)
  · exact .inr (.inr (.inl h))
  · exact .inr (.inr (.inr (.inl h)))
theorem parse_dirty {k : Nat} {idx s : List UInt8} (i : Nat) (h1 : depthOf s ≤ i) (h2 : i < 8 * markBytes s) (h3 : bitN (marksOf s) i = 1) : parse k idx s = none := by
  unfold parse; rw [if_pos]
  refine .inr (.inr (.inr (.inr ?_)))
  cases hc : (List.range (8 * markBytes s)).all (fun i => decide (i < depthOf s) || bitN (marksOf s) i == 0) with
  | false => rfl
  | true =>
    have := (clean_all s _).1 hc i h1 h2
    omega
theorem parse_sibs {k : Nat} {idx s : List UInt8} (h : sibsTo k s (depthOf s) = none) : parse k idx s = none := by
  unfold parse
  split
  · rfl
  · rw [h]; rfl
theorem sibs_none {k : Nat} {s : List UInt8} {i : Nat} (h : sibsTo k s i = none) : ∀ j, sibsTo k s (i + j) = none := by
  intro j
  induction j with
  | zero => exact h
  | succ j ih => rw [← Nat.add_assoc, sibsTo, ih]; rfl
theorem parse_whole {k : Nat} {idx s : List UInt8} {S : List (List UInt8)} {a : Nat} (h3 : 3 ≤ s.length) (hk : kindOf s ≤ 2) (hd : depthOf s ≤ 256) (hl : 3 + markBytes s ≤ s.length) (hc : cleanTo s (8 * markBytes s)) (hS : sibsTo k s (depthOf s) = some (S, a)) : parse k idx s = endOf k idx s S (s.drop a) := by
  unfold parse
  rw [if_neg, hS]
  · rfl
  · rintro (h | h | h | h | h)
    · omega
    · omega
    · omega
    · omega
    · rw [(clean_all s _).2 hc] at h; cases h
theorem sibs_step0 {k : Nat} {s : List UInt8} {i a : Nat} {S : List (List UInt8)} (h : sibsTo k s i = some (S, a)) (hb : bitN (marksOf s) i = 0) : sibsTo k s (i + 1) = some (S ++ [dg k [0]], a) := by
  rw [sibsTo, h, Option.bind_some, if_neg (by omega)]
theorem sibs_step1 {k : Nat} {s : List UInt8} {i a : Nat} {S : List (List UInt8)} (h : sibsTo k s i = some (S, a)) (hb : bitN (marksOf s) i = 1) (h1 : a + k ≤ s.length) (h2 : (s.drop a).take k ≠ dg k [0]) : sibsTo k s (i + 1) = some (S ++ [(s.drop a).take k], a + k) := by
  rw [sibsTo, h, Option.bind_some, if_pos hb, if_pos ⟨h1, h2⟩]
theorem sibs_fail {k : Nat} {s : List UInt8} {i a : Nat} {S : List (List UInt8)} (h : sibsTo k s i = some (S, a)) (hb : bitN (marksOf s) i = 1) (hn : ¬ (a + k ≤ s.length ∧ (s.drop a).take k ≠ dg k [0])) : sibsTo k s (i + 1) = none := by
  rw [sibsTo, h, Option.bind_some, if_pos hb, if_neg hn]
theorem sibs_at {k : Nat} {s : List UInt8} (hl : 3 + markBytes s ≤ s.length) : ∀ {i a : Nat} {S : List (List UInt8)}, sibsTo k s i = some (S, a) → S.length = i ∧ a ≤ s.length ∧ 3 + markBytes s ≤ a := by
  intro i
  induction i with
  | zero => intro a S h; simp only [sibsTo, Option.some.injEq, Prod.mk.injEq] at h; obtain ⟨rfl, rfl⟩ := h; exact ⟨rfl, hl, Nat.le_refl _⟩
  | succ i ih =>
    intro a S h
    rw [sibsTo] at h
    cases hp : sibsTo k s i with
    | none => rw [hp] at h; cases h
    | some p =>
      obtain ⟨S0, a0⟩ := p
      rw [hp, Option.bind_some] at h
      obtain ⟨q1, q2, q3⟩ := ih hp
      split at h
      · split at h
        · rename_i h1
          simp only [Option.some.injEq, Prod.mk.injEq] at h
          obtain ⟨rfl, rfl⟩ := h
          exact ⟨by simp [q1], h1.1, by omega⟩
        · cases h
      · simp only [Option.some.injEq, Prod.mk.injEq] at h
        obtain ⟨rfl, rfl⟩ := h
        exact ⟨by simp [q1], q2, q3⟩
theorem sibs_len {k : Nat} {s : List UInt8} (hk : k ≤ 32) : ∀ {i a : Nat} {S : List (List UInt8)}, sibsTo k s i = some (S, a) → ∀ x ∈ S, x.length = k := by
  intro i
  induction i with
  | zero => intro a S h; simp only [sibsTo, Option.some.injEq, Prod.mk.injEq] at h; obtain ⟨rfl, rfl⟩ := h; intro x hx; cases hx
  | succ i ih =>
    intro a S h x hx
    rw [sibsTo] at h
    cases hp : sibsTo k s i with
    | none => rw [hp] at h; cases h
    | some p =>
      obtain ⟨S0, a0⟩ := p
      rw [hp, Option.bind_some] at h
      split at h
      · split at h
        · rename_i h1
          simp only [Option.some.injEq, Prod.mk.injEq] at h
          obtain ⟨rfl, rfl⟩ := h
          rcases List.mem_append.1 hx with h2 | h2
          · exact ih hp x h2
          · rw [List.mem_singleton] at h2
            subst h2
            have := h1.1
            simp
            omega
        · cases h
      · simp only [Option.some.injEq, Prod.mk.injEq] at h
        obtain ⟨rfl, rfl⟩ := h
        rcases List.mem_append.1 hx with h2 | h2
        · exact ih hp x h2
        · rw [List.mem_singleton] at h2
          subst h2
          exact dg_length k [0] hk

/-- what a proof that is one keeps to -/
structure PW.Ok (k : Nat) (p : PW) : Prop where
  depth : p.sibs.length ≤ 256
  sib : ∀ x ∈ p.sibs, x.length = k
  value : p.value.length ≤ 100
  other : p.other.length ≤ 32
  digest : p.digest.length ≤ 32
  kind : p.kind ≤ 2
theorem parse_ok {k : Nat} {idx s : List UInt8} {p : PW} (hk : k ≤ 32) (h : parse k idx s = some p) : p.Ok k := by
  unfold parse at h
  split at h
  · cases h
  · rename_i hn
    cases hS : sibsTo k s (depthOf s) with
    | none => rw [hS] at h; cases h
    | some q =>
      obtain ⟨S, a⟩ := q
      rw [hS, Option.bind_some] at h
      have hd : depthOf s ≤ 256 := by omega
      have hl : 3 + markBytes s ≤ s.length := by omega
      have h1 := sibs_at hl hS
      have h2 := sibs_len hk hS
      unfold endOf at h
      dsimp only at h
      split at h
      · split at h
        · simp only [Option.some.injEq] at h; subst h; exact ⟨by rw [h1.1]; exact hd, h2, by simp, by simp, by simp, by simp⟩
        · cases h
      · split at h
        · split at h
          · rename_i h3
            simp only [Option.some.injEq] at h; subst h; exact ⟨by rw [h1.1]; exact hd, h2, h3, by simp, by simp, by simp⟩
          · cases h
        · split at h
          · rename_i h3
            simp only [Option.some.injEq] at h; subst h
            have h4 := h3.1
            refine ⟨by rw [h1.1]; exact hd, h2, by simp, ?_, ?_, by simp⟩
            · rw [List.length_take]; omega
            · rw [List.length_drop, h4]; omega
          · cases h

/-- the text of which the digest at the end is made -/
def PW.endText (k : Nat) (idx : List UInt8) (p : PW) : List UInt8 :=
  if p.kind = 1 then 1 :: (idx ++ dg k (4 :: p.value)) else if p.kind = 2 then 1 :: (p.other ++ p.digest) else [0]
/-- the text j steps above the end -/
def PW.up (k : Nat) (idx : List UInt8) (p : PW) : Nat → List UInt8
  | 0 => p.endText k idx
  | j + 1 => if bitN idx (p.sibs.length - 1 - j) = 0 then 2 :: (dg k (p.up k idx j) ++ p.sibs.getD (p.sibs.length - 1 - j) []) else 2 :: (p.sibs.getD (p.sibs.length - 1 - j) [] ++ dg k (p.up k idx j))
/-- the text of which the digest at a depth is made -/
def PW.textAt (k : Nat) (idx : List UInt8) (p : PW) (depth : Nat) : List UInt8 := p.up k idx (p.sibs.length - depth)
def PW.root (k : Nat) (idx : List UInt8) (p : PW) : List UInt8 := dg k (p.textAt k idx 0)
/-- Present and a value, or Absent -/
def PW.said (p : PW) : Nat × List UInt8 := if p.kind = 1 then (1, p.value) else (2, [])
theorem up_length (k : Nat) (idx : List UInt8) (p : PW) (hk : k ≤ 32) (hi : idx.length = 32) (hp : p.Ok k) : ∀ j, j ≤ p.sibs.length → (p.up k idx j).length ≤ 65 := by
  intro j
  induction j with
  | zero =>
    intro _
    unfold PW.up PW.endText
    have := hp.other; have := hp.digest
    split
    · simp [hi, dg_length k _ hk]; omega
    · split
      · simp; omega
      · simp
  | succ j ih =>
    intro hj
    have hs : (p.sibs.getD (p.sibs.length - 1 - j) []).length ≤ 32 := by
      rw [List.getD_eq_getElem?_getD, List.getElem?_eq_getElem (by omega)]
      have := hp.sib _ (List.getElem_mem (l := p.sibs) (n := p.sibs.length - 1 - j) (by omega))
      simp only [Option.getD_some]
      omega
    unfold PW.up
    split
    · rw [List.length_cons, List.length_append, dg_length k _ hk]; omega
    · rw [List.length_cons, List.length_append, dg_length k _ hk]; omega

/-- what Verify answers: a kind, a value, an error's number -/
def verdict (root idx s : List UInt8) : Nat × List UInt8 × Nat :=
  if root.length < 1 ∨ 32 < root.length ∨ idx.length ≠ 32 then (0, [], 1)
  else match parse root.length idx s with
    | none => (0, [], 2)
    | some p => if p.root root.length idx = root then (p.said.1, p.said.2, 0) else (0, [], 3)
end Go.Proofs.YtghpcgagijhlaaaDoor
