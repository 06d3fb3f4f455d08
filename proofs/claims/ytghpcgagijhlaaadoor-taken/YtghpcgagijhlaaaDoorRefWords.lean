/- The document's own table of words, as its function hands it back: a new slice of the 64 cube roots; no condition. -/
import Derived.Test.YtghpcgagijhlaaaDoorPad
import Derived.Test.YtghpcgagijhlaaaDoorOwn
import Derived.Test.YtghpcgagijhlaaaDoorBlock
namespace Go.Proofs.YtghpcgagijhlaaaDoor
open Go.RowKit Sha

set_option maxRecDepth 100000 in
set_option maxHeartbeats 1000000 in
theorem words_any (w : World) :
    Calls Tryd.prog 42 #[] w fun e w' => e = .returned (.slice (some ⟨w.heap.size, 0, none⟩) 64 64) ∧ w' = w.alloc (.cells (row .u64 K) 74) := by
  go_enter Tryd.func42, Tryd.ntmps42
  go_wp2
  go_ret
  exact ⟨rfl, congrArg (fun c => w.alloc (.cells c 74)) (by kernel_rfl)⟩

theorem cells64_size (s : R8) : s.cells64.size = 8 := rfl
theorem cells64_one (s : R8) : s.cells64.all (·.oneCell') = true := by simp [R8.cells64, Value.oneCell']
theorem cells_size (s : R8) : s.cells.size = 8 := rfl
theorem cells_one (s : R8) : s.cells.all (·.oneCell') = true := by simp [R8.cells, Value.oneCell']
def bv (l : List UInt8) : List Value := l.map fun b => .int .u8 (b.toNat : Int)
theorem bv_app (a b : List UInt8) : bv (a ++ b) = bv a ++ bv b := by simp [bv]
theorem bv_length (l : List UInt8) : (bv l).length = l.length := by simp [bv]
theorem bv_get (l : List UInt8) (i : Nat) (h : i < l.length) : (bv l)[i]? = some (.int .u8 ((l.getD i 0).toNat : Int)) := by simp [bv, h]
theorem blk_get (l : List UInt8) (j i : Nat) (h : i < 64) : (blk l j).getD i 0 = l.getD (64 * j + i) 0 := by
  simp [blk, List.getD, List.getElem?_drop, h]
theorem bv_one (l : List UInt8) : ∀ u ∈ bv l, u.oneCell' = true := by
  intro u hu
  simp [bv] at hu
  obtain ⟨b, _, rfl⟩ := hu
  rfl

end Go.Proofs.YtghpcgagijhlaaaDoor
