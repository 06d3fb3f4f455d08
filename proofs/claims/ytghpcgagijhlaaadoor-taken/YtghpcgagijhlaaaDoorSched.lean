/- The words of a block, and those that the document makes of them for 64 rounds, as rows of 64 cells: plain facts, no condition. -/
import Derived.Test.YtghpcgagijhlaaaDoorMix
namespace Go.Proofs.YtghpcgagijhlaaaDoor
open Go.RowKit Sha

/-- bytes gathered into a word, the highest first -/
def acc (l : List UInt8) : BitVec 32 := l.foldl (fun x b => x <<< 8 ||| BitVec.ofNat 32 b.toNat) 0
/-- the word at a place of a text -/
def wordAt (l : List UInt8) (t : Nat) : BitVec 32 := acc ((l.drop (4 * t)).take 4)
def put (f : Nat → BitVec 32) (t : Nat) (x : BitVec 32) : Nat → BitVec 32 := fun i => if i = t then x else f i
/-- the first t words of the block -/
def heads (l : List UInt8) (t : Nat) : Nat → BitVec 32 := fun i => if i < t then wordAt l i else 0
/-- n more words made of them -/
def sched (l : List UInt8) : Nat → Nat → BitVec 32
  | 0 => heads l 16
  | n + 1 => put (sched l n) (16 + n) (s1 (sched l n (16 + n - 2)) + sched l n (16 + n - 7) + s0 (sched l n (16 + n - 15)) + sched l n (16 + n - 16))

/-- 64 words as an array of the program's -/
def row (k : IntKind) (f : Nat → BitVec 32) : Array Value := ((List.range 64).map fun i => Value.int k (V (f i))).toArray
theorem row_size (k : IntKind) (f : Nat → BitVec 32) : (row k f).size = 64 := by simp [row]
theorem row_get (k : IntKind) (f : Nat → BitVec 32) (i : Nat) (h : i < 64) : (row k f)[i]? = some (.int k (V (f i))) := by
  simp [row, h]
theorem row_set (k : IntKind) (f : Nat → BitVec 32) (t : Nat) (x : BitVec 32) : (row k f).setIfInBounds t (.int k (V x)) = row k (put f t x) := by
  apply Array.ext_getElem?
  intro i
  rw [Array.getElem?_setIfInBounds, row_size]
  by_cases h : i < 64
  · rw [row_get k (put f t x) i h]
    by_cases e : t = i
    · subst e; simp [h, put]
    · rw [if_neg e, row_get k _ i h]; simp [put, Ne.symm e]
  · rw [Array.getElem?_eq_none (by rw [row_size]; omega), Array.getElem?_eq_none (by rw [row_size]; omega)]
    by_cases e : t = i
    · subst e; simp [h]
    · rw [if_neg e]
theorem row_one (k : IntKind) (f : Nat → BitVec 32) : (row k f).all (·.oneCell') = true := by
  rw [Array.all_eq_true_iff_forall_mem]
  intro v hv
  simp [row] at hv
  obtain ⟨i, _, rfl⟩ := hv
  rfl
theorem row_congr (k : IntKind) (f g : Nat → BitVec 32) (h : ∀ i, i < 64 → f i = g i) : row k f = row k g := by
  apply Array.ext_getElem?
  intro i
  by_cases hi : i < 64
  · rw [row_get k _ i hi, row_get k _ i hi, h i hi]
  · rw [Array.getElem?_eq_none (by rw [row_size]; omega), Array.getElem?_eq_none (by rw [row_size]; omega)]
theorem put_put (f : Nat → BitVec 32) (t : Nat) (x y : BitVec 32) : put (put f t x) t y = put f t y := by
  funext i; unfold put; split <;> rfl
theorem put_at (f : Nat → BitVec 32) (t : Nat) (x : BitVec 32) : put f t x t = x := by simp [put]
theorem heads_next (l : List UInt8) (t : Nat) : put (heads l t) t (wordAt l t) = heads l (t + 1) := by
  funext i
  unfold put heads
  by_cases h : i = t
  · subst h; simp
  · rw [if_neg h]
    by_cases h2 : i < t
    · rw [if_pos h2, if_pos (by omega)]
    · rw [if_neg h2, if_neg (by omega)]
theorem heads_put_zero (l : List UInt8) (t : Nat) : put (heads l t) t 0 = heads l t := by
  funext i
  unfold put heads
  by_cases h : i = t
  · subst h; simp
  · rw [if_neg h]
theorem acc_snoc (l : List UInt8) (b : UInt8) : acc (l ++ [b]) = acc l <<< 8 ||| BitVec.ofNat 32 b.toNat := by simp [acc]
theorem acc_nil : acc [] = 0 := rfl
/-- a byte gathered, as the program does it -/
theorem gather (x : BitVec 32) (b : UInt8) : bits .or .u32 (V x * 256 % 4294967296) (b.toNat : Int) = V (x <<< 8 ||| BitVec.ofNat 32 b.toNat) := by
  have h1 : V x * (256 : Int) % (4294967296 : Int) = V (x <<< 8) := V_shl x 8
  have hb := b.toNat_lt
  have h2 : (b.toNat : Int) = V (BitVec.ofNat 32 b.toNat) := by
    unfold V; rw [BitVec.toNat_ofNat, Nat.mod_eq_of_lt (by omega)]
  rw [h1, h2, V_or]
end Go.Proofs.YtghpcgagijhlaaaDoor
