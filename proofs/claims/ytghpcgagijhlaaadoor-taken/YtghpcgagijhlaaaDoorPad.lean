/- The document's digest as a plain function on bytes: the table of cube roots, the first state, what comes behind a text, block by block. Plain facts, no condition. -/
import Derived.Test.YtghpcgagijhlaaaDoorBytes
namespace Go.Proofs.YtghpcgagijhlaaaDoor
open Go.RowKit Sha

def kList : List Nat := [1116352408, 1899447441, 3049323471, 3921009573, 961987163, 1508970993, 2453635748, 2870763221, 3624381080, 310598401, 607225278, 1426881987, 1925078388, 2162078206, 2614888103, 3248222580, 3835390401, 4022224774, 264347078, 604807628, 770255983, 1249150122, 1555081692, 1996064986, 2554220882, 2821834349, 2952996808, 3210313671, 3336571891, 3584528711, 113926993, 338241895, 666307205, 773529912, 1294757372, 1396182291, 1695183700, 1986661051, 2177026350, 2456956037, 2730485921, 2820302411, 3259730800, 3345764771, 3516065817, 3600352804, 4094571909, 275423344, 430227734, 506948616, 659060556, 883997877, 958139571, 1322822218, 1537002063, 1747873779, 1955562222, 2024104815, 2227730452, 2361852424, 2428436474, 2756734187, 3204031479, 3329325298]
def K (i : Nat) : BitVec 32 := BitVec.ofNat 32 (kList.getD i 0)
def H0 : R8 := ⟨BitVec.ofNat 32 1779033703, BitVec.ofNat 32 3144134277, BitVec.ofNat 32 1013904242, BitVec.ofNat 32 2773480762, BitVec.ofNat 32 1359893119, BitVec.ofNat 32 2600822924, BitVec.ofNat 32 528734635, BitVec.ofNat 32 1541459225⟩

/-- block number j of some bytes -/
def blk (l : List UInt8) (j : Nat) : List UInt8 := (l.drop (64 * j)).take 64
/-- the first j blocks taken into a state -/
def blocksTo (s : R8) (l : List UInt8) : Nat → R8
  | 0 => s
  | j + 1 => (blocksTo s l j).mix K (sched (blk l j) 48)
/-- the eight bytes of how many bits there were -/
def lenByte (n i : Nat) : UInt8 := UInt8.ofNat (8 * n / 2 ^ (8 * (7 - i)))
def lenBytes (n : Nat) : List UInt8 := (List.range 8).map (lenByte n)
/-- how many bytes 0 -/
def zs (n : Nat) : Nat := (119 - n % 64) % 64
def behind (n : Nat) : List UInt8 := 128 :: (List.replicate (zs n) 0 ++ lenBytes n)
def padded (l : List UInt8) : List UInt8 := l ++ behind l.length
def sha (l : List UInt8) : List UInt8 := outBytes (blocksTo H0 (padded l) ((padded l).length / 64))

theorem lenByte_int (n i : Nat) : 8 * (n : Int) / 2 ^ (8 * (7 - i)) % 256 = ((lenByte n i).toNat : Int) := by
  rw [lenByte, UInt8.toNat_ofNat', show (2 : Nat) ^ 8 = 256 from rfl, Int.natCast_emod, Int.natCast_ediv, Int.natCast_mul, two_pow_cast]
  rfl
theorem behind_length (n : Nat) : (behind n).length = 9 + zs n := by simp [behind, lenBytes]; omega
theorem padded_length (l : List UInt8) : (padded l).length = l.length + 9 + zs l.length := by simp [padded, behind_length]; omega
theorem padded_mod (l : List UInt8) : (padded l).length % 64 = 0 := by rw [padded_length]; unfold zs; omega
theorem blk_length (l : List UInt8) (j : Nat) (h : 64 * j + 64 ≤ l.length) : (blk l j).length = 64 := by simp [blk]; omega
theorem blocks_left (s : R8) (a b : List UInt8) : ∀ j, 64 * j ≤ a.length → blocksTo s (a ++ b) j = blocksTo s a j := by
  intro j
  induction j with
  | zero => intro _; rfl
  | succ j ih =>
    intro h
    have e : blk (a ++ b) j = blk a j := by
      unfold blk
      rw [List.drop_append_of_le_length (by omega), List.take_append_of_le_length (by simp; omega)]
    simp only [blocksTo, ih (by omega), e]
theorem blocks_app (s : R8) (a b : List UInt8) (k : Nat) (ha : a.length = 64 * k) : ∀ j, blocksTo s (a ++ b) (k + j) = blocksTo (blocksTo s a k) b j := by
  intro j
  induction j with
  | zero => exact blocks_left s a b k (by omega)
  | succ j ih =>
    have e : blk (a ++ b) (k + j) = blk b j := by
      unfold blk
      rw [Nat.mul_add, ← ha, ← List.drop_drop, List.drop_left]
    rw [← Nat.add_assoc]
    simp only [blocksTo, ih, e]
/-- the whole blocks first, then the rest with what comes behind -/
theorem sha_two (l : List UInt8) : sha l = outBytes (blocksTo (blocksTo H0 (l.take (l.length - l.length % 64)) (l.length / 64)) (l.drop (l.length - l.length % 64) ++ behind l.length) ((l.length % 64 + 9 + zs l.length) / 64)) := by
  have hk : l.length - l.length % 64 = 64 * (l.length / 64) := by omega
  have e : padded l = l.take (l.length - l.length % 64) ++ (l.drop (l.length - l.length % 64) ++ behind l.length) := by
    rw [← List.append_assoc, List.take_append_drop]; rfl
  have hn : (padded l).length / 64 = l.length / 64 + (l.length % 64 + 9 + zs l.length) / 64 := by
    rw [padded_length]; unfold zs; omega
  unfold sha
  rw [hn, e, blocks_app _ _ _ (l.length / 64) (by simp; omega)]
theorem outBytes_length (s : R8) : (outBytes s).length = 32 := by simp [outBytes]
theorem sha_length (l : List UInt8) : (sha l).length = 32 := outBytes_length _
end Go.Proofs.YtghpcgagijhlaaaDoor
