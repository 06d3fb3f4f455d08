/- What the document's own reading of a bit answers: the bit at a place, the highest of the first byte first, for every place that lies in the text; no memory is touched. -/
import Derived.Test.YtghpcgagijhlaaaDoorDigests
namespace Go.Proofs.YtghpcgagijhlaaaDoor
open Go.RowKit Sha

/-- the bit at a place, as a number -/
def bitN (l : List UInt8) (k : Nat) : Nat := (l.getD (k / 8) 0).toNat / 2 ^ (7 - k % 8) % 2

theorem byte_at (s : ByteArray) (i : Nat) (h : i < s.size) : s[i] = s.data.toList.getD i 0 := by
  show s.data[i] = _
  have hi : i < s.data.toList.length := by simpa using h
  rw [List.getD_eq_getElem?_getD, List.getElem?_eq_getElem hi]
  simp

theorem wrap64_b (b : UInt8) : wrap64 (b.toNat : Int) = (b.toNat : Int) := by
  have := b.toNat_lt
  unfold wrap64
  omega

set_option maxHeartbeats 1000000 in
theorem bit_any (s : ByteArray) (k : Nat) (w : World) (hk : k / 8 < s.size) (hs : s.size ≤ 9223372036854775807) (hk2 : k ≤ 4611686018427387904) :
    Calls Tryd.prog 44 #[.string s, .int .i64 k] w fun e w' => e = .returned (.int .i64 (bitN s.data.toList k : Nat)) ∧ w' = w := by
  go_enter Tryd.func44, Tryd.ntmps44
  go_wp2
  simp only [wrap64_b]
  have hb : Hid (s[k / 8].toNat = (s.data.toList.getD (k / 8) 0).toNat) := by show _ = _; rw [byte_at s (k / 8) hk]
  have hy : s[k / 8].toNat < 256 := s[k / 8].toNat_lt
  generalize s[k / 8].toNat = y at *
  have h8 : k % 8 < 8 := Nat.mod_lt _ (by omega)
  have hm : (k : Int) % 8 = ((k % 8 : Nat) : Int) := by omega
  rw [hm]
  have Hm : Hid ((k : Int) % 8 = ((k % 8 : Nat) : Int)) := hm
  clear hm
  have hfin : Hid (bitN s.data.toList k = y / 2 ^ (7 - k % 8) % 2) := by show _ = _; rw [bitN, ← hb.out]
  generalize k % 8 = r at *
  go_loop [5, 6] (fun b i => ∃ j : Nat, r + j ≤ 7 ∧ i = .int .i64 ((r + j : Nat) : Int) ∧ b = .int .i64 ((y / 2 ^ j : Nat) : Int)) (fun _ i => 7 - (intOf i).toNat)
  case atStart => exact ⟨0, by omega, rfl, by rw [Nat.pow_zero, Nat.div_one]⟩
  case round =>
    obtain ⟨j, hj, rfl, rfl⟩ := hrel
    have hd : Hid (y / 2 ^ j / 2 = y / 2 ^ (j + 1)) := by show _ = _; rw [Nat.div_div_eq_div_mul, Nat.pow_succ]
    have hle : y / 2 ^ j ≤ y := Nat.div_le_self _ _
    by_cases hlt : r + j < 7
    · generalize y / 2 ^ j = z at *
      go_wp2
      go_round
      case rel => exact ⟨j + 1, by omega, by go_num, by rw [← hd.out]; go_num⟩
      case measure => simp [intOf]; omega
    · have hj7 : Hid (7 - r = j) := by show _ = _; omega
      have hfin2 : Hid (bitN s.data.toList k = y / 2 ^ j % 2) := by show _ = _; rw [hfin.out, hj7.out]
      clear hd
      generalize y / 2 ^ j = z at *
      go_wp2
      go_ret
      exact ⟨by rw [hfin2.out]; exact ret_int (by omega), rfl⟩
theorem bitN_lt (l : List UInt8) (k : Nat) : bitN l k = 0 ∨ bitN l k = 1 := by unfold bitN; omega
end Go.Proofs.YtghpcgagijhlaaaDoor
