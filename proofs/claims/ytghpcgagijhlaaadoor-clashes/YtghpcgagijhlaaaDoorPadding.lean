/- What the program lays behind a text: the document's one bit, its bits 0 and its length, for every length up to 2^47 - 4096; nothing that was in memory turns. -/
import Derived.Test.YtghpcgagijhlaaaDoorEight
namespace Go.Proofs.YtghpcgagijhlaaaDoor
open Go.RowKit Sha

set_option maxRecDepth 100000 in
set_option maxHeartbeats 1000000 in
theorem padding_any (n : Nat) (w : World) (hn : n ≤ 140737488351232) :
    Calls Tryd.prog 40 #[.int .i64 n] w fun e w' => e = .returned (.string ⟨(behind n).toArray⟩) ∧ Below w.heap.size w w' := by
  have hz : (64 - ((n : Int) + 1 + 8) % 64) % 64 = ((zs n : Nat) : Int) := by unfold zs; omega
  have Hrep : Hid (∀ w : World, Calls Tryd.prog 56 #[.string ⟨#[0]⟩, .int .i64 (zs n : Nat)] w fun e w' => e = .returned (.string ⟨(List.replicate (zs n) 0).toArray⟩) ∧ Below w.heap.size w w') := fun w => by
    have hzz : zs n ≤ 63 := by unfold zs; omega
    have h := Tryd.strings_Repeat ⟨#[0]⟩ (zs n) w (by omega) (by show 1 * zs n ≤ _; omega)
    have e : Lib.repeatL ([0] : List UInt8) (zs n) = List.replicate (zs n) 0 := by
      have := Lib.repeatL_replicate 0 1 (zs n)
      rwa [Nat.mul_one] at this
    have e' : Lib.repeatL (⟨#[0]⟩ : ByteArray).data.toList (zs n) = List.replicate (zs n) 0 := e
    rw [e'] at h
    exact h
  have H8 : Hid (∀ w : World, Calls Tryd.prog 57 #[.int .u64 ((n : Int) * 8)] w fun e w' => e = .returned (.string ⟨(lenBytes n).toArray⟩) ∧ Below w.heap.size w w') := fun w => by
    have h := eightBytes_any (8 * n) w
    rw [← eight_len, show ((8 * n : Nat) : Int) = (n : Int) * 8 by omega] at h
    exact h
  have hZl : (List.replicate (zs n) (0 : UInt8)).length ≤ 63 := by rw [List.length_replicate]; unfold zs; omega
  have hLl : (lenBytes n).length = 8 := by simp [lenBytes]
  have Hbh : Hid (behind n = 128 :: (List.replicate (zs n) 0 ++ lenBytes n)) := rfl
  generalize List.replicate (zs n) (0 : UInt8) = Z at *
  generalize lenBytes n = LB at *
  go_enter Tryd.func40, Tryd.ntmps40
  go_wp2_with fail
  refine (Hrep.out _).mono ?_
  rintro e w1 ⟨rfl, hb1⟩
  have B1 : Hid (Below w.heap.size w w1) := hb1
  clear hb1
  go_wp2_with fail
  refine (H8.out _).mono ?_
  rintro e w2 ⟨rfl, hb2⟩
  have B2 : Hid (Below w1.heap.size w1 w2) := hb2
  clear hb2
  go_wp2_with fail
  go_ret
  refine ⟨congrArg Ending.returned (congrArg Value.string ?_), B1.out.trans (B2.out.mono B1.out.size)⟩
  rw [Hbh.out]
  apply ByteArray.ext
  simp [ByteArray.data_append]
end Go.Proofs.YtghpcgagijhlaaaDoor
