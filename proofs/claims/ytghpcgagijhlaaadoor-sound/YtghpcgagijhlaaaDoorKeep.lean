/- What thicketkeep's small functions answer (pick, indexOf, valueOf, sealed, sibling, bit), for every number; nothing that was in memory turns. -/
import Derived.Test.YtghpcgagijhlaaaDoorPVerify
namespace Go.Proofs.YtghpcgagijhlaaaDoor
open Go.RowKit Sha

/-- which of n things a raw number speaks of -/
def pickZ (c : Int) (n : Int) : Int := (if c < 0 then -(c + 1) else c) % n
theorem pickZ_range (c : Int) (n : Int) (hn : 0 < n) : 0 ≤ pickZ c n ∧ pickZ c n < n := ⟨Int.emod_nonneg _ (by omega), Int.emod_lt_of_pos _ hn⟩
theorem pickZ_nat (c : Int) (n : Nat) (hn : 0 < n) : ∃ m : Nat, pickZ c (n : Int) = (m : Int) ∧ m < n := by
  obtain ⟨h1, h2⟩ := pickZ_range c n (by omega)
  exact ⟨(pickZ c n).toNat, by omega, by omega⟩

set_option maxHeartbeats 1000000 in
theorem pick_any (c n : Int) (w : World) (h1 : -9223372036854775808 ≤ c) (h2 : c ≤ 9223372036854775807) (hn : 1 ≤ n) (hn2 : n ≤ 256) :
    Calls Tryd.prog 16 #[.int .i64 c, .int .i64 n] w fun e w' => e = .returned (.int .i64 (pickZ c n)) ∧ w' = w := by
  by_cases hc : c < 0
  · have hv : Hid (pickZ c n = -(c + 1).tmod n) := by show _ = _; rw [pickZ, if_pos hc, ← Int.neg_tmod, Int.tmod_eq_emod_of_nonneg (by omega)]
    go_enter Tryd.func16, Tryd.ntmps16
    go_wp2
    go_ret
    exact ⟨by rw [hv.out]; rfl, rfl⟩
  · have hv : Hid (pickZ c n = c % n) := by show _ = _; rw [pickZ, if_neg hc]
    go_enter Tryd.func16, Tryd.ntmps16
    go_wp2
    go_ret
    exact ⟨by rw [hv.out]; rfl, rfl⟩

/-- bytes as they lie in a block -/
def u8row (l : List UInt8) : Array Value := (l.map fun b => Value.int .u8 (b.toNat : Int)).toArray
theorem u8row_get (l : List UInt8) (i : Nat) (h : i < l.length) : (u8row l)[i]? = some (.int .u8 ((l.getD i 0).toNat : Int)) := by simp [u8row, h]
theorem u8row_set (l : List UInt8) (i : Nat) (b : UInt8) : (u8row l).setIfInBounds i (.int .u8 (b.toNat : Int)) = u8row (l.set i b) := by
  apply Array.toList_inj.1
  rw [Array.toList_setIfInBounds]
  simp [u8row, List.map_set]
/-- so many bytes 0 -/
def zrow (n : Nat) : Array Value := u8row (List.replicate n 0)
theorem make_bytes (n : Nat) (hn : n ≤ 1000) (W : World) : (Instr.makeSlice 42 (.int .i64 (n : Int)) (.int .i64 (n : Int))).run Tryd.prog W = .ok (.slice (some ⟨W.heap.size, 0, none⟩) n n) (W.alloc (.cells (zrow n) 5)) := by
  obtain ⟨i, h1, h2, h3, h4⟩ := byte_info
  have := run_make (P := Tryd.prog) W 42 5 i (.int .u8 0) Tryd.underlying42 h1 h2 .i64 .i64 (n : Int) (n : Int) (by omega) (Int.le_refl _) (by rw [h4]; omega) (by omega)
  have hz : (madeCells (Value.int .u8 0).cells n) = zrow n := by
    apply Array.toList_inj.1
    rw [show (Value.int .u8 0).cells = #[Value.int .u8 0] from rfl, toList_madeCells_one]
    simp [zrow, u8row]
  rw [this, h3, Nat.mul_one, show ((n : Int)).toNat = n from by omega, hz]
theorem str_row {W : World} {g : Nat} {l : List UInt8} (h : Blk W g 5 (u8row l)) (c : Nat) : (convert 42 9 (.slice (some ⟨g, 0, none⟩) l.length c)).run Tryd.prog W = .ok (.string ⟨l.toArray⟩) W :=
  run_string_of (P := Tryd.prog) W 42 9 5 g 0 c l Tryd.underlying42 Tryd.underlying5 Tryd.underlying9 (fun j hj => by
    rw [Nat.zero_add, h.cell j]; exact u8row_get l j hj)

def idxOf (n : Int) : List UInt8 := ((List.replicate 32 0).set 0 (UInt8.ofNat ((pickZ n 64).toNat / 2 * 8))).set 31 (UInt8.ofNat ((pickZ n 64).toNat % 2))
theorem idxOf_length (n : Int) : (idxOf n).length = 32 := by simp [idxOf]

set_option maxRecDepth 100000 in
set_option maxHeartbeats 1000000 in
theorem indexOf_any (n : Int) (w : World) (h1 : -9223372036854775808 ≤ n) (h2 : n ≤ 9223372036854775807) :
    Calls Tryd.prog 17 #[.int .i64 n] w fun e w' => e = .returned (.string ⟨(idxOf n).toArray⟩) ∧ Below w.heap.size w w' := by
  have hmk : ∀ W, (Instr.makeSlice 42 (.int .i64 32) (.int .i64 32)).run Tryd.prog W = .ok (.slice (some ⟨W.heap.size, 0, none⟩) 32 32) (W.alloc (.cells (zrow 32) 5)) := make_bytes 32 (by omega)
  have b0 : Hid (Below w.heap.size w (w.alloc (.cells (zrow 32) 5))) := (Below.refl _ _).alloc (Nat.le_refl _) _
  have k0 : Hid (Blk (w.alloc (.cells (zrow 32) 5)) w.heap.size 5 (u8row (List.replicate 32 0))) := Blk.new _ _ _
  go_enter Tryd.func17, Tryd.ntmps17
  go_wp2_with fail
  generalize w.alloc (.cells (zrow 32) 5) = w0 at *
  refine (pick_any n 64 w0 h1 h2 (by omega) (by omega)).mono ?_
  rintro e w2 ⟨rfl, hw2⟩
  obtain rfl : w0 = w2 := hw2.symm
  clear hw2 hmk
  obtain ⟨m, hm, hm64⟩ := pickZ_nat n 64 (by omega)
  have Hm : Hid (pickZ n 64 = (m : Int)) := hm
  rw [show pickZ n 64 = (m : Int) from hm]
  clear hm
  have hbx : ((m : Int) / 2 * 8) = ((UInt8.ofNat (m / 2 * 8)).toNat : Int) := by
    rw [UInt8.toNat_ofNat']; omega
  have hby : ((m : Int) % 2) = ((UInt8.ofNat (m % 2)).toNat : Int) := by
    rw [UInt8.toNat_ofNat']; omega
  have hI : Hid (idxOf n = ((List.replicate 32 0).set 0 (UInt8.ofNat (m / 2 * 8))).set 31 (UInt8.ofNat (m % 2))) := by
    show _ = _
    rw [idxOf, Hm.out]; rfl
  have hlx := (UInt8.ofNat (m / 2 * 8)).toNat_lt
  have hly := (UInt8.ofNat (m % 2)).toNat_lt
  generalize UInt8.ofNat (m / 2 * 8) = x at *
  generalize UInt8.ofNat (m % 2) = y at *
  have e0 : w0.cell? ⟨w.heap.size, 0, none⟩ = some (.int .u8 0) := by rw [k0.out.cell]; rfl
  have f0 : w0.frozen? ⟨w.heap.size, 0, none⟩ = false := k0.out.frozen 0
  have k1 : Hid (Blk (w0.setCell ⟨w.heap.size, 0, none⟩ (.int .u8 (x.toNat : Int))) w.heap.size 5 (u8row ((List.replicate 32 0).set 0 x))) := by
    have := k0.out.set_same 0 (.int .u8 (x.toNat : Int))
    rw [u8row_set] at this
    exact this
  have e1 : (w0.setCell ⟨w.heap.size, 0, none⟩ (.int .u8 (x.toNat : Int))).cell? ⟨w.heap.size, 31, none⟩ = some (.int .u8 0) := by rw [k1.out.cell, u8row_get _ _ (by simp)]; rfl
  have f1 : (w0.setCell ⟨w.heap.size, 0, none⟩ (.int .u8 (x.toNat : Int))).frozen? ⟨w.heap.size, 31, none⟩ = false := k1.out.frozen 31
  have k2 : Hid (Blk ((w0.setCell ⟨w.heap.size, 0, none⟩ (.int .u8 (x.toNat : Int))).setCell ⟨w.heap.size, 31, none⟩ (.int .u8 (y.toNat : Int))) w.heap.size 5 (u8row (idxOf n))) := by
    have := k1.out.set_same 31 (.int .u8 (y.toNat : Int))
    rw [u8row_set, ← hI.out] at this
    exact this
  have hst : (convert 42 9 (.slice (some ⟨w.heap.size, 0, none⟩) 32 32)).run Tryd.prog ((w0.setCell ⟨w.heap.size, 0, none⟩ (.int .u8 (x.toNat : Int))).setCell ⟨w.heap.size, 31, none⟩ (.int .u8 (y.toNat : Int))) = .ok (.string ⟨(idxOf n).toArray⟩) ((w0.setCell ⟨w.heap.size, 0, none⟩ (.int .u8 (x.toNat : Int))).setCell ⟨w.heap.size, 31, none⟩ (.int .u8 (y.toNat : Int))) := by
    have := str_row k2.out 32
    rw [idxOf_length] at this
    exact this
  have i1 : (0 : Int) ≤ (m : Int) / 2 * 8 := by omega
  have i2 : (m : Int) / 2 * 8 < 256 := by omega
  go_wp2
  go_ret
  exact ⟨rfl, (b0.out.setCell (by simp) _).setCell (by simp) _⟩
end Go.Proofs.YtghpcgagijhlaaaDoor
