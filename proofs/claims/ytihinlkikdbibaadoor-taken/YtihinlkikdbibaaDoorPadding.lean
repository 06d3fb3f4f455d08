/- What the program lays behind a text: the document's one bit, its bits 0 and its length, for every length up to 2^47 - 4096; nothing that was in memory turns. -/
import Derived.Test.YtihinlkikdbibaaDoorRefWords
import Derived.Test.YtihinlkikdbibaaDoorShelf
namespace Go.Proofs.YtihinlkikdbibaaDoor
open Go.RowKit Sha

/-- the first t of the eight bytes in a row of 8 -/
def lenRow (n t : Nat) : Array Value := ((List.range 8).map fun i => Value.int .u8 (if i < t then ((lenByte n i).toNat : Int) else 0)).toArray
theorem lenRow_size (n t : Nat) : (lenRow n t).size = 8 := by simp [lenRow]
theorem lenRow_get (n t i : Nat) (h : i < 8) : (lenRow n t)[i]? = some (.int .u8 (if i < t then ((lenByte n i).toNat : Int) else 0)) := by simp [lenRow, h]
theorem lenRow_next (n t : Nat) : (lenRow n t).setIfInBounds t (.int .u8 ((lenByte n t).toNat : Int)) = lenRow n (t + 1) := by
  apply Array.ext_getElem?
  intro i
  rw [Array.getElem?_setIfInBounds, lenRow_size]
  by_cases h : i < 8
  · rw [lenRow_get n (t + 1) i h]
    by_cases e : t = i
    · subst e; simp [h]
    · rw [if_neg e, lenRow_get n t i h]
      by_cases h2 : i < t
      · rw [if_pos h2, if_pos (by omega)]
      · rw [if_neg h2, if_neg (by omega)]
  · rw [Array.getElem?_eq_none (by rw [lenRow_size]; omega), Array.getElem?_eq_none (by rw [lenRow_size]; omega)]
    by_cases e : t = i
    · subst e; simp [h]
    · rw [if_neg e]

set_option maxHeartbeats 1000000 in
theorem padding_any (n : Nat) (w : World) (hn : n ≤ 140737488351232) :
    Calls Tryd.prog 40 #[.int .i64 n] w fun e w' => e = .returned (.string ⟨(behind n).toArray⟩) ∧ Below w.heap.size w w' := by
  have hz : (64 - ((n : Int) + 1 + 8) % 64) % 64 = ((zs n : Nat) : Int) := by unfold zs; omega
  go_enter Tryd.func40, Tryd.ntmps40
  go_wp2
  go_loopg [18] 8 (fun q i wr => ∃ t : Nat, t + q = 8 ∧ i = .int .i64 (t : Int) ∧ Below w.heap.size w wr ∧ Blk wr w.heap.size 86 (lenRow n t))
  case atStart => exact ⟨0, rfl, rfl, (Below.refl _ _).alloc (Nat.le_refl _) _, Blk.new _ _ _⟩
  case round =>
    obtain ⟨t, ht, rfl, b1, b2⟩ := hrel
    have B1 : Hid (Below w.heap.size w wr) := b1
    have B2 : Hid (Blk wr w.heap.size 86 (lenRow n t)) := b2
    clear b1 b2
    by_cases hlt : t < 8
    · have e1 : wr.cell? ⟨w.heap.size, t, none⟩ = some (.int .u8 (if t < t then ((lenByte n t).toNat : Int) else 0)) := by rw [B2.out.cell, lenRow_get _ _ _ hlt]
      rw [if_neg (by omega)] at e1
      have e2 : wr.frozen? ⟨w.heap.size, t, none⟩ = false := B2.out.frozen _
      go_wp2
      go_roundg (7 - t)
      case measure => omega
      case rel =>
        go_light
        have hb : (n : Int) * 8 / 2 ^ (8 * (7 - t)) % 256 = ((lenByte n t).toNat : Int) := by rw [Int.mul_comm, lenByte_int]
        rw [hb]
        refine ⟨t + 1, by omega, by go_num, B1.out.setCell (Nat.le_refl _) _, ?_⟩
        have := B2.out.set_same t (.int .u8 ((lenByte n t).toNat : Int))
        rw [lenRow_next] at this
        exact this
    · obtain rfl : t = 8 := by omega
      have Hst : Hid (∀ (d : Nat) (os : Array Obj), (convert 42 9 (.slice (some ⟨w.heap.size, 0, none⟩) 8 8)).run Tryd.prog (Go.Sort.grow (redrawn wr d) os) = .ok (.string ⟨(lenBytes n).toArray⟩) (Go.Sort.grow (redrawn wr d) os)) := fun d os =>
        run_string_of (P := Tryd.prog) _ 42 9 5 w.heap.size 0 8 (lenBytes n) Tryd.underlying42 Tryd.underlying5 Tryd.underlying9 (fun j hj => by
          have hj' : j < 8 := by simpa [lenBytes] using hj
          rw [Nat.zero_add, (B2.out.below (below_regrown wr d os) B2.out.lt).cell, lenRow_get _ _ _ hj', if_pos hj']
          simp [lenBytes, hj'])
      have Hrep : Hid (∀ (d : Nat) (os : Array Obj), Calls Tryd.prog 56 #[.string ⟨#[0]⟩, .int .i64 (zs n : Nat)] (Go.Sort.grow (redrawn wr d) os) fun e w'' => e = .returned (.string ⟨(List.replicate (zs n) 0).toArray⟩) ∧ ∃ p : Regrown, w'' = Go.Sort.grow (redrawn wr p.d) p.os) := fun d os => by
        have hzz : zs n ≤ 63 := by unfold zs; omega
        have h := Tryd.strings_Repeat ⟨#[0]⟩ (zs n) (Go.Sort.grow (redrawn wr d) os) (by omega) (by show 1 * zs n ≤ _; omega)
        have e : Lib.repeatL ([0] : List UInt8) (zs n) = List.replicate (zs n) 0 := by
          have := Lib.repeatL_replicate 0 1 (zs n)
          rwa [Nat.mul_one] at this
        have e' : Lib.repeatL (⟨#[0]⟩ : ByteArray).data.toList (zs n) = List.replicate (zs n) 0 := e
        rw [e'] at h
        exact Calls.regrown_of h
      have hZl : (List.replicate (zs n) (0 : UInt8)).length ≤ 63 := by rw [List.length_replicate]; unfold zs; omega
      have hLl : (lenBytes n).length = 8 := by simp [lenBytes]
      have Hbh : Hid (behind n = 128 :: (List.replicate (zs n) 0 ++ lenBytes n)) := rfl
      generalize List.replicate (zs n) (0 : UInt8) = Z at *
      generalize lenBytes n = LB at *
      go_wp2
      have hst := Hst.out
      refine wp_region_quiet_below (by kernel_rfl) (by kernel_rfl) ?_
      repeat (any_goals (first | go_big_quiet_step ((exact Hrep.out _ _)) | quiet_step ((exact Hrep.out _ _))))
      refine wpQuiet_nil ?_
      intro W1 hw'
      obtain ⟨p, hp⟩ := hw'
      have hb : Hid (Below wr.heap.size wr W1) := by rw [hp]; exact below_regrown wr p.d p.os
      clear hp Hrep Hst hst
      go_wp2
      go_ret
      refine ⟨congrArg Ending.returned (congrArg Value.string ?_), B1.out.trans (hb.out.mono B1.out.size)⟩
      rw [Hbh.out]
      apply ByteArray.ext
      simp [ByteArray.data_append]
end Go.Proofs.YtihinlkikdbibaaDoor
