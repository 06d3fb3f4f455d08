/- The document's examples of digests, reckoned by the kernel off the plain function: of abc, and of one byte 0. Closed facts. -/
import Derived.Test.YtghpcgagijhlaaaDoorPad
import Derived.KernelRfl
namespace Go.Proofs.YtghpcgagijhlaaaDoor
open Go.RowKit Sha

/-- the words of the rounds, the last one first -/
def fastW (l : List UInt8) : Nat → List (BitVec 32)
  | 0 => ((List.range 16).map (wordAt l)).reverse
  | n + 1 => (s1 ((fastW l n).getD 1 0) + (fastW l n).getD 6 0 + s0 ((fastW l n).getD 14 0) + (fastW l n).getD 15 0) :: fastW l n
theorem fastW_get (l : List UInt8) : ∀ n i, i < 16 + n → (fastW l n).getD i 0 = sched l n (15 + n - i) := by
  intro n
  induction n with
  | zero =>
    intro i hi
    have h : i = 0 ∨ i = 1 ∨ i = 2 ∨ i = 3 ∨ i = 4 ∨ i = 5 ∨ i = 6 ∨ i = 7 ∨ i = 8 ∨ i = 9 ∨ i = 10 ∨ i = 11 ∨ i = 12 ∨ i = 13 ∨ i = 14 ∨ i = 15 := by omega
    rcases h with rfl | rfl | rfl | rfl | rfl | rfl | rfl | rfl | rfl | rfl | rfl | rfl | rfl | rfl | rfl | rfl <;> rfl
  | succ n ih =>
    intro i hi
    cases i with
    | zero =>
      show _ = put (sched l n) (16 + n) _ (15 + (n + 1) - 0)
      rw [show 15 + (n + 1) - 0 = 16 + n from by omega, put_at, fastW, List.getD_cons_zero, ih 1 (by omega), ih 6 (by omega), ih 14 (by omega), ih 15 (by omega), show 15 + n - 1 = 16 + n - 2 from by omega, show 15 + n - 6 = 16 + n - 7 from by omega, show 15 + n - 14 = 16 + n - 15 from by omega, show 15 + n - 15 = 16 + n - 16 from by omega]
    | succ i =>
      rw [fastW, List.getD_cons_succ, ih i (by omega)]
      show _ = put (sched l n) (16 + n) _ (15 + (n + 1) - (i + 1))
      rw [show 15 + (n + 1) - (i + 1) = 15 + n - i from by omega, put, if_neg (by omega)]
theorem steps_congr (ks f g : Nat → BitVec 32) (s : R8) : ∀ n, (∀ t, t < n → f t = g t) → R8.steps ks f n s = R8.steps ks g n s := by
  intro n
  induction n with
  | zero => intro _; rfl
  | succ n ih =>
    intro h
    rw [R8.steps, R8.steps, ih (fun t ht => h t (by omega)), h n (by omega)]

/-- eight words and the list of (cube root, word) still to come -/
def roundsL : List (BitVec 32 × BitVec 32) → R8 → R8
  | [], s => s
  | (k, w) :: r, s => roundsL r (s.step k w)
theorem roundsL_snoc (p : List (BitVec 32 × BitVec 32)) (k w : BitVec 32) : ∀ s, roundsL (p ++ [(k, w)]) s = (roundsL p s).step k w := by
  induction p with
  | nil => intro s; rfl
  | cons a p ih => intro s; obtain ⟨k', w'⟩ := a; exact ih _
theorem steps_list (ks ws : Nat → BitVec 32) (s : R8) : ∀ n, R8.steps ks ws n s = roundsL ((List.range n).map fun t => (ks t, ws t)) s := by
  intro n
  induction n with
  | zero => rfl
  | succ n ih => rw [R8.steps, ih, List.range_succ, List.map_append]; exact (roundsL_snoc _ _ _ _).symm
def fastMix (l : List UInt8) (s : R8) : R8 := s.plus (roundsL ((kList.map (BitVec.ofNat 32)).zip (fastW l 48).reverse) s)
theorem fastW_length (l : List UInt8) : ∀ n, (fastW l n).length = 16 + n := by
  intro n
  induction n with
  | zero => rfl
  | succ n ih => rw [fastW, List.length_cons, ih]; omega
theorem zip_rounds (l : List UInt8) : (kList.map (BitVec.ofNat 32)).zip (fastW l 48).reverse = (List.range 64).map fun t => (K t, sched l 48 t) := by
  apply List.ext_getElem
  · simp [kList, fastW_length]
  · intro t h1 h2
    have ht : t < 64 := by simpa using h2
    have hr : (fastW l 48).reverse[t]'(by rw [List.length_reverse, fastW_length]; omega) = sched l 48 t := by
      have h := fastW_get l 48 (63 - t) (by omega)
      rw [List.getElem_reverse]
      simp only [fastW_length]
      rw [List.getD_eq_getElem?_getD, List.getElem?_eq_getElem (by rw [fastW_length]; omega)] at h
      rw [show 15 + 48 - (63 - t) = t from by omega] at h
      simp only [Option.getD_some] at h
      rw [← h]
    rw [List.getElem_zip, List.getElem_map, List.getElem_map, List.getElem_range, hr]
    congr 1
    rw [K, List.getD_eq_getElem?_getD, List.getElem?_eq_getElem (by show t < 64; exact ht)]
    rfl
theorem mix_fast (l : List UInt8) (s : R8) : s.mix K (sched l 48) = fastMix l s := by
  rw [R8.mix, fastMix, zip_rounds, steps_list]
theorem sha_short (l : List UInt8) (h : (padded l).length = 64) : sha l = outBytes (fastMix (padded l) H0) := by
  rw [sha, h]
  show outBytes (R8.mix K (sched (blk (padded l) 0) 48) H0) = _
  rw [mix_fast, blk, Nat.mul_zero, List.drop_zero, List.take_of_length_le (by omega)]
theorem sha_abc : sha [97, 98, 99] = [186, 120, 22, 191, 143, 1, 207, 234, 65, 65, 64, 222, 93, 174, 34, 35, 176, 3, 97, 163, 150, 23, 122, 156, 180, 16, 255, 97, 242, 0, 21, 173] := by
  rw [sha_short _ (by decide +kernel)]
  decide +kernel
theorem sha_zero : (sha [0]).take 2 = [110, 52] := by
  rw [sha_short _ (by decide +kernel)]
  decide +kernel
end Go.Proofs.YtghpcgagijhlaaaDoor
