/- What the program's writing of a state as 32 bytes answers: its words, the highest byte first; nothing that was in memory turns; no condition. -/
import Derived.Test.YtghpcgagijhlaaaDoorSpread
namespace Go.Proofs.YtghpcgagijhlaaaDoor
open Go.RowKit Sha

/-- the byte at a place of a state -/
def outByte (s : R8) (i : Nat) : UInt8 := UInt8.ofNat (s.get (i / 4) >>> (24 - 8 * (i % 4))).toNat
/-- the 32 bytes -/
def outBytes (s : R8) : List UInt8 := (List.range 32).map (outByte s)
/-- the first t of them in a row of 32 -/
def outRow (s : R8) (t : Nat) : Array Value := ((List.range 32).map fun i => Value.int .u8 (if i < t then ((outByte s i).toNat : Int) else 0)).toArray

theorem outRow_size (s : R8) (t : Nat) : (outRow s t).size = 32 := by simp [outRow]
theorem outRow_get (s : R8) (t i : Nat) (h : i < 32) : (outRow s t)[i]? = some (.int .u8 (if i < t then ((outByte s i).toNat : Int) else 0)) := by simp [outRow, h]
theorem outRow_next (s : R8) (t : Nat) : (outRow s t).setIfInBounds t (.int .u8 ((outByte s t).toNat : Int)) = outRow s (t + 1) := by
  apply Array.ext_getElem?
  intro i
  rw [Array.getElem?_setIfInBounds, outRow_size]
  by_cases h : i < 32
  · rw [outRow_get s (t + 1) i h]
    by_cases e : t = i
    · subst e; simp [h]
    · rw [if_neg e, outRow_get s t i h]
      by_cases h2 : i < t
      · rw [if_pos h2, if_pos (by omega)]
      · rw [if_neg h2, if_neg (by omega)]
  · rw [Array.getElem?_eq_none (by rw [outRow_size]; omega), Array.getElem?_eq_none (by rw [outRow_size]; omega)]
    by_cases e : t = i
    · subst e; simp [h]
    · rw [if_neg e]
theorem state_cell (s : R8) (i : Nat) (h : i < 8) : s.cells[i]? = some (.int .u32 (V (s.get i))) := by
  have : i = 0 ∨ i = 1 ∨ i = 2 ∨ i = 3 ∨ i = 4 ∨ i = 5 ∨ i = 6 ∨ i = 7 := by omega
  rcases this with rfl | rfl | rfl | rfl | rfl | rfl | rfl | rfl <;> rfl

theorem out_four (s : R8) (j : Nat) (h : j < 8) : (outBytes s).take (4 * (j + 1)) = (outBytes s).take (4 * j) ++ [outByte s (4 * j), outByte s (4 * j + 1), outByte s (4 * j + 2), outByte s (4 * j + 3)] := by
  have e : ∀ n, n ≤ 32 → (outBytes s).take n = (List.range n).map (outByte s) := fun n hn => by
    rw [outBytes, ← List.map_take, List.take_range, Nat.min_eq_left hn]
  rw [e _ (by omega), e _ (by omega), show 4 * (j + 1) = 4 * j + 1 + 1 + 1 + 1 from by omega]
  simp [List.range_succ]
theorem byte_of (x : BitVec 32) (n : Nat) : V (x >>> n) % 256 = ((UInt8.ofNat (x >>> n).toNat).toNat : Int) := by
  unfold V; rw [UInt8.toNat_ofNat']; omega
theorem out_byte0 (s : R8) (j : Nat) : V (s.get j) / 16777216 % 256 = ((outByte s (4 * j)).toNat : Int) := by
  have h := byte_of (s.get j) 24
  rw [← V_shr] at h
  rw [outByte, show 4 * j / 4 = j from by omega, show 24 - 8 * (4 * j % 4) = 24 from by omega]
  exact h
theorem out_byte1 (s : R8) (j : Nat) : V (s.get j) / 65536 % 256 = ((outByte s (4 * j + 1)).toNat : Int) := by
  have h := byte_of (s.get j) 16
  rw [← V_shr] at h
  rw [outByte, show (4 * j + 1) / 4 = j from by omega, show 24 - 8 * ((4 * j + 1) % 4) = 16 from by omega]
  exact h
theorem out_byte2 (s : R8) (j : Nat) : V (s.get j) / 256 % 256 = ((outByte s (4 * j + 2)).toNat : Int) := by
  have h := byte_of (s.get j) 8
  rw [← V_shr] at h
  rw [outByte, show (4 * j + 2) / 4 = j from by omega, show 24 - 8 * ((4 * j + 2) % 4) = 8 from by omega]
  exact h
theorem out_byte3 (s : R8) (j : Nat) : V (s.get j) % 256 = ((outByte s (4 * j + 3)).toNat : Int) := by
  have h := byte_of (s.get j) 0
  rw [← V_shr] at h
  rw [outByte, show (4 * j + 3) / 4 = j from by omega, show 24 - 8 * ((4 * j + 3) % 4) = 0 from by omega]
  rw [show V (s.get j) = V (s.get j) / 2 ^ 0 from by simp]
  exact h

attribute [local go_sem] V_shr
set_option maxHeartbeats 1000000 in
theorem bytes_any (s : R8) (w : World) :
    Calls Tryd.prog 41 #[.agg s.cells] w fun e w' => e = .returned (.string ⟨(outBytes s).toArray⟩) ∧ Below w.heap.size w w' := by
  have hz : Hid ((#[.int .u8 0, .int .u8 0, .int .u8 0, .int .u8 0, .int .u8 0, .int .u8 0, .int .u8 0, .int .u8 0, .int .u8 0, .int .u8 0, .int .u8 0, .int .u8 0, .int .u8 0, .int .u8 0, .int .u8 0, .int .u8 0, .int .u8 0, .int .u8 0, .int .u8 0, .int .u8 0, .int .u8 0, .int .u8 0, .int .u8 0, .int .u8 0, .int .u8 0, .int .u8 0, .int .u8 0, .int .u8 0, .int .u8 0, .int .u8 0, .int .u8 0, .int .u8 0] : Array Value) = outRow s 0) := rfl
  go_enter Tryd.func41, Tryd.ntmps41
  go_wp2
  go_loopg [5] 32 (fun k i wr => ∃ t : Nat, t + k = 32 ∧ i = .int .i64 t ∧ Below w.heap.size w wr ∧ Blk wr w.heap.size 69 s.cells ∧ Blk wr (w.heap.size + 1) 88 (outRow s t))
  case atStart =>
    refine ⟨0, rfl, rfl, ((Below.refl _ _).alloc (Nat.le_refl _) _).alloc (by simp) _, (Blk.new _ _ _).alloc _, ?_⟩
    have := Blk.new (w.alloc (.cells s.cells 69)) 88 (outRow s 0)
    rw [size_alloc] at this
    exact this
  case round =>
    obtain ⟨t, ht, rfl, b1, b2, b3⟩ := hrel
    have B1 : Hid (Below w.heap.size w wr) := b1
    have B2 : Hid (Blk wr w.heap.size 69 s.cells) := b2
    have B3 : Hid (Blk wr (w.heap.size + 1) 88 (outRow s t)) := b3
    clear b1 b2 b3 hz
    by_cases hlt : t < 32
    · have e1 : wr.cell? ⟨w.heap.size, t / 4, none⟩ = some (.int .u32 (V (s.get (t / 4)))) := by rw [B2.out.cell, state_cell _ _ (by omega)]
      have e2 : wr.cell? ⟨w.heap.size + 1, t, none⟩ = some (.int .u8 (if t < t then ((outByte s t).toNat : Int) else 0)) := by rw [B3.out.cell, outRow_get _ _ _ hlt]
      rw [if_neg (by omega)] at e2
      have e3 : wr.frozen? ⟨w.heap.size + 1, t, none⟩ = false := B3.out.frozen _
      go_wp2
      go_roundg (31 - t)
      case measure => omega
      case rel =>
        go_light
        have hb : V (s.get (t / 4) >>> (24 - 8 * (t % 4))) % 256 = ((outByte s t).toNat : Int) := by
          unfold V outByte
          rw [UInt8.toNat_ofNat']
          omega
        rw [hb]
        refine ⟨t + 1, by omega, by go_num, B1.out.setCell (by simp) _, B2.out.set_other _ _ (by simp), ?_⟩
        have := B3.out.set_same t (.int .u8 ((outByte s t).toNat : Int))
        rw [outRow_next] at this
        exact this
    · obtain rfl : t = 32 := by omega
      have hst := run_string_of (P := Tryd.prog) wr 42 9 5 (w.heap.size + 1) 0 32 (outBytes s) Tryd.underlying42 Tryd.underlying5 Tryd.underlying9 (fun j hj => by
        have hj' : j < 32 := by simpa [outBytes] using hj
        rw [Nat.zero_add, B3.out.cell, outRow_get _ _ _ hj', if_pos hj']
        simp [outBytes, hj'])
      rw [show (outBytes s).length = 32 from by simp [outBytes]] at hst
      go_wp2
      go_ret
      exact ⟨rfl, B1.out⟩
end Go.Proofs.YtghpcgagijhlaaaDoor
