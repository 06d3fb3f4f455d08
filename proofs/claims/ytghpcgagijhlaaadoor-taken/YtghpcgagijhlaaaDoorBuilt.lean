/- A built proof is one that is made as the document says: plain facts. -/
import Derived.Test.YtghpcgagijhlaaaDoorKText
namespace Go.Proofs.YtghpcgagijhlaaaDoor
open Go.RowKit Sha

theorem flip_length (I : List UInt8) (t : Nat) : (flipAt I t).length = I.length := by rw [flipAt, List.length_set]
theorem flip_same (I : List UInt8) (t n : Nat) (ht : t / 8 < I.length) (hn : n ≤ t) : sameBits I (flipAt I t) n := fun i hi => by
  rw [flipAt, bit_xor _ _ _ ht, if_neg (by omega)]
theorem flip_ne (I : List UInt8) (t : Nat) (ht : t / 8 < I.length) : flipAt I t ≠ I := fun h => by
  have h1 := bit_xor I t t ht
  rw [if_pos rfl] at h1
  have h2 : bitN (flipAt I t) t = bitN I t := by rw [h]
  rw [flipAt, h1] at h2
  have := bitN_lt I t
  omega
theorem built_made (k : Nat) (I : List UInt8) (m : Nat) (ys : List Int) (val oth : Int) (hk : k ≤ 32) (hI : I.length = 32) (hy : ys.length ≤ 20) : Made k I (builtPW k I m ys val oth) := by
  have hs : ∀ x ∈ ys.map (sibOf k), x.length = k := fun x hx => by obtain ⟨y', _, rfl⟩ := List.mem_map.1 hx; exact sibOf_length k _ hk
  have hv := valOf_length val
  unfold builtPW
  by_cases h1 : m = 1
  · rw [if_pos h1]
    exact ⟨by simp, by simpa using hy, hs, (fun h => by cases h), fun _ => ⟨by simp only; omega, rfl, rfl⟩, (fun h => by cases h)⟩
  · rw [if_neg h1]
    by_cases h2 : m = 2
    · rw [if_pos h2]
      obtain ⟨t0, e0, l0⟩ := pickZ_nat oth (256 - ys.length) (by omega)
      refine ⟨by simp, by simpa using hy, hs, (fun h => by cases h), (fun h => by cases h), fun _ => ⟨rfl, ?_, dg_length k _ hk, ?_, ?_⟩⟩
      · rw [flip_length]; exact hI
      · exact flip_ne _ _ (by rw [e0, hI]; simp only [Int.toNat_natCast]; omega)
      · refine flip_same _ _ _ (by rw [e0, hI]; simp only [Int.toNat_natCast]; omega) (by simp)
    · rw [if_neg h2]
      exact ⟨by simp, by simpa using hy, hs, fun _ => ⟨rfl, rfl, rfl⟩, (fun h => by cases h), (fun h => by cases h)⟩
theorem made_ok {k : Nat} {I : List UInt8} {p : PW} (hk : k ≤ 32) (h : Made k I p) : p.Ok k := parse_ok (idx := I) hk (encode_parse h)
theorem encode_len {k : Nat} {I : List UInt8} {p : PW} (hk : k ≤ 32) (h : Made k I p) : 3 ≤ (encode k p).length ∧ (encode k p).length ≤ 1200 := by
  have h1 := told_len (dg k [0]) p.sibs k 20 h.sib hk (by omega)
  rw [List.take_of_length_le h.depth] at h1
  have h2 : (restOf p).length ≤ 100 := by
    have ho := made_ok hk h
    unfold restOf
    split
    · exact ho.value
    · split
      · rw [List.length_append]
        have := ho.other; have := ho.digest
        omega
      · simp
  have h3 : (encode k p).length = 3 + (p.sibs.length + 7) / 8 + (toldL (dg k [0]) p.sibs).length + (restOf p).length := encX_len (X := restOf p)
  have h4 := h.depth
  omega
/-- what Verify says of a proof that is made so, under its root -/
theorem made_verdict {k : Nat} {I : List UInt8} {p : PW} (hk1 : 1 ≤ k) (hk2 : k ≤ 32) (hI : I.length = 32) (h : Made k I p) : verdict (p.root k I) I (encode k p) = (p.said.1, p.said.2, 0) := by
  have hl : (p.root k I).length = k := dg_length k _ hk2
  have hp : parse (p.root k I).length I (encode k p) = some p := by rw [hl]; exact encode_parse h
  have he : lookErr (p.root k I) I (encode k p) = 0 := lookErr_ok (by rw [hl, hI]; omega) hp (by rw [hl])
  exact verdict_ok he hp (by rw [hl])
/-- under another root of that width -/
theorem made_other {k : Nat} {I : List UInt8} {p : PW} {R : List UInt8} (hk1 : 1 ≤ k) (hk2 : k ≤ 32) (hI : I.length = 32) (h : Made k I p) (hR : R.length = k) (hne : R ≠ p.root k I) : verdict R I (encode k p) = (0, [], 3) := by
  have hp : parse R.length I (encode k p) = some p := by rw [hR]; exact encode_parse h
  have he : lookErr R I (encode k p) = 3 := lookErr_root (by rw [hR, hI]; omega) hp (by rw [hR]; exact fun h => hne h.symm)
  rw [verdict_err (by omega), he]
/-- cut off -/
theorem short_verdict {R I s : List UInt8} (h1 : 1 ≤ R.length) (h2 : R.length ≤ 32) (hI : I.length = 32) (h : s.length < 3) : verdict R I s = (0, [], 2) := by
  have he : lookErr R I s = 2 := lookErr_form (by omega) (parse_short (.inl h))
  rw [verdict_err (by omega), he]
/-- with a byte behind it -/
theorem longer_verdict {k : Nat} {I : List UInt8} {p : PW} (hk1 : 1 ≤ k) (hk2 : k ≤ 32) (hI : I.length = 32) (h : Made k I p) (hv : p.value.length ≤ 4) :
    (p.kind ≠ 1 → verdict (p.root k I) I (encode k p ++ [0]) = (0, [], 2)) ∧
    (p.kind = 1 → verdict (p.root k I) I (encode k p ++ [0]) = (0, [], 3) ∨ verdict (p.root k I) I (encode k p ++ [0]) = (1, p.value ++ [0], 0)) := by
  have hl : (p.root k I).length = k := dg_length k _ hk2
  have hna : ¬ ((p.root k I).length < 1 ∨ 32 < (p.root k I).length ∨ I.length ≠ 32) := by rw [hl, hI]; omega
  have e : encode k p ++ [0] = encX k p (restOf p ++ [0]) := by simp [encode, encX]
  have hpar : parse (p.root k I).length I (encode k p ++ [0]) = endOf k I (encX k p (restOf p ++ [0])) p.sibs (restOf p ++ [0]) := by rw [hl, e]; exact encX_parse h.kind h.depth h.sib
  rw [endOf, encX_kind h.kind] at hpar
  refine ⟨fun hne => ?_, fun h1 => ?_⟩
  · have hnone : parse (p.root k I).length I (encode k p ++ [0]) = none := by
      rw [hpar]
      by_cases h0 : p.kind = 0
      · rw [if_pos h0, if_neg (by simp)]
      · have h2 : p.kind = 2 := by have := h.kind; omega
        obtain ⟨_, q2, q3, _, _⟩ := h.two h2
        rw [if_neg h0, if_neg hne, if_neg]
        intro hh
        have := hh.1
        rw [restOf, if_neg hne, if_pos h2] at this
        simp [q2, q3] at this
    have he := lookErr_form hna hnone
    rw [verdict_err (by omega), he]
  · have hr : restOf p = p.value := by rw [restOf, if_pos h1]
    have hsome : parse (p.root k I).length I (encode k p ++ [0]) = some ⟨1, p.sibs, p.value ++ [0], [], []⟩ := by
      rw [hpar, if_neg (by omega), if_pos h1, hr, if_pos (by simp; omega)]
    by_cases hroot : (PW.mk 1 p.sibs (p.value ++ [0]) [] []).root (p.root k I).length I = p.root k I
    · have he := lookErr_ok hna hsome hroot
      exact .inr (verdict_ok he hsome hroot)
    · have he := lookErr_root hna hsome hroot
      exact .inl (by rw [verdict_err (by omega), he])
end Go.Proofs.YtghpcgagijhlaaaDoor
