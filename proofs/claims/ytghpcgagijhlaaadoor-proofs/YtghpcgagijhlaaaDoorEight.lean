/- A number in eight bytes, the highest first, for every number of 64 bits; nothing that was in memory turns. -/
import Derived.Test.YtghpcgagijhlaaaDoorRefWords
import Derived.Test.YtghpcgagijhlaaaDoorShelf
namespace Go.Proofs.YtghpcgagijhlaaaDoor
open Go.RowKit Sha

def eightB (m i : Nat) : UInt8 := UInt8.ofNat (m / 2 ^ (8 * (7 - i)))
def eight (m : Nat) : List UInt8 := (List.range 8).map (eightB m)
theorem eight_len (n : Nat) : lenBytes n = eight (8 * n) := rfl
theorem eightB_int (m i : Nat) : (m : Int) / 2 ^ (8 * (7 - i)) % 256 = ((eightB m i).toNat : Int) := by
  rw [eightB, UInt8.toNat_ofNat', show (2 : Nat) ^ 8 = 256 from rfl, Int.natCast_emod, Int.natCast_ediv, two_pow_cast]
  rfl
/-- the first t of the eight bytes in a row of 8 -/
def eightRow (n t : Nat) : Array Value := ((List.range 8).map fun i => Value.int .u8 (if i < t then ((eightB n i).toNat : Int) else 0)).toArray
theorem eightRow_size (n t : Nat) : (eightRow n t).size = 8 := by simp [eightRow]
theorem eightRow_get (n t i : Nat) (h : i < 8) : (eightRow n t)[i]? = some (.int .u8 (if i < t then ((eightB n i).toNat : Int) else 0)) := by simp [eightRow, h]
theorem eightRow_next (n t : Nat) : (eightRow n t).setIfInBounds t (.int .u8 ((eightB n t).toNat : Int)) = eightRow n (t + 1) := by
  apply Array.ext_getElem?
  intro i
  rw [Array.getElem?_setIfInBounds, eightRow_size]
  by_cases h : i < 8
  · rw [eightRow_get n (t + 1) i h]
    by_cases e : t = i
    · subst e; simp [h]
    · rw [if_neg e, eightRow_get n t i h]
      by_cases h2 : i < t
      · rw [if_pos h2, if_pos (by omega)]
      · rw [if_neg h2, if_neg (by omega)]
  · rw [Array.getElem?_eq_none (by rw [eightRow_size]; omega), Array.getElem?_eq_none (by rw [eightRow_size]; omega)]
    by_cases e : t = i
    · subst e; simp [h]
    · rw [if_neg e]

set_option maxHeartbeats 1000000 in
theorem eightBytes_any (n : Nat) (w : World) :
    Calls Tryd.prog 57 #[.int .u64 n] w fun e w' => e = .returned (.string ⟨(eight n).toArray⟩) ∧ Below w.heap.size w w' := by
  go_enter Tryd.func57, Tryd.ntmps57
  go_wp2
  go_loopg [5] 8 (fun q i wr => ∃ t : Nat, t + q = 8 ∧ i = .int .i64 (t : Int) ∧ Below w.heap.size w wr ∧ Blk wr w.heap.size 105 (eightRow n t))
  case atStart => exact ⟨0, rfl, rfl, (Below.refl _ _).alloc (Nat.le_refl _) _, Blk.new _ _ _⟩
  case round =>
    obtain ⟨t, ht, rfl, b1, b2⟩ := hrel
    have B1 : Hid (Below w.heap.size w wr) := b1
    have B2 : Hid (Blk wr w.heap.size 105 (eightRow n t)) := b2
    clear b1 b2
    by_cases hlt : t < 8
    · have e1 : wr.cell? ⟨w.heap.size, t, none⟩ = some (.int .u8 (if t < t then ((eightB n t).toNat : Int) else 0)) := by rw [B2.out.cell, eightRow_get _ _ _ hlt]
      rw [if_neg (by omega)] at e1
      have e2 : wr.frozen? ⟨w.heap.size, t, none⟩ = false := B2.out.frozen _
      go_wp2
      go_roundg (7 - t)
      case measure => omega
      case rel =>
        go_light
        have hb : (n : Int) / 2 ^ (56 - 8 * t) % 256 = ((eightB n t).toNat : Int) := by rw [← eightB_int, show 56 - 8 * t = 8 * (7 - t) by omega]
        rw [hb]
        refine ⟨t + 1, by omega, by go_num, B1.out.setCell (Nat.le_refl _) _, ?_⟩
        have := B2.out.set_same t (.int .u8 ((eightB n t).toNat : Int))
        rw [eightRow_next] at this
        exact this
    · obtain rfl : t = 8 := by omega
      have hst : Hid ((convert 42 9 (.slice (some ⟨w.heap.size, 0, none⟩) 8 8)).run Tryd.prog wr = .ok (.string ⟨(eight n).toArray⟩) wr) :=
        run_string_of (P := Tryd.prog) _ 42 9 5 w.heap.size 0 8 (eight n) Tryd.underlying42 Tryd.underlying5 Tryd.underlying9 (fun j hj => by
          have hj' : j < 8 := by simpa [eight] using hj
          rw [Nat.zero_add, B2.out.cell, eightRow_get _ _ _ hj', if_pos hj']
          simp [eight, hj'])
      have hst2 := hst.out
      go_wp2
      go_ret
      exact ⟨rfl, B1.out⟩
end Go.Proofs.YtghpcgagijhlaaaDoor
