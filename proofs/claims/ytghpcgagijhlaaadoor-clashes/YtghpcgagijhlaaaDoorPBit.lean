/- The program's small functions on bits and texts: what each answers; no memory is touched. -/
import Derived.Test.YtghpcgagijhlaaaDoorWay
namespace Go.Proofs.YtghpcgagijhlaaaDoor
open Go.RowKit Sha

theorem byte_bit (y r : Nat) (hy : y < 256) (hr : r < 8) : (bits .and .u8 ((y : Int) * 2 ^ r % 256) 128 != 0) = decide (y / 2 ^ (7 - r) % 2 = 1) := by
  have H : ∀ y : Fin 256, ∀ r : Fin 8, (bits .and .u8 ((y.val : Int) * 2 ^ r.val % 256) 128 != 0) = decide (y.val / 2 ^ (7 - r.val) % 2 = 1) := by decide +kernel
  exact H ⟨y, hy⟩ ⟨r, hr⟩

set_option maxHeartbeats 1000000 in
theorem pbit_any (s : ByteArray) (k : Nat) (w : World) (hk : k / 8 < s.size) (hs : s.size ≤ 9223372036854775807) (hk2 : k ≤ 4611686018427387904) :
    Calls Tryd.prog 48 #[.string s, .int .i64 k] w fun e w' => e = .returned (.bool (decide (bitN s.data.toList k = 1))) ∧ w' = w := by
  go_enter Tryd.func48, Tryd.ntmps48
  go_wp2
  have hb : Hid (decide (bitN s.data.toList k = 1) = (bits .and .u8 ((s[k / 8].toNat : Int) * 2 ^ (k % 8) % 256) 128 != 0)) := by
    show _ = _
    rw [byte_bit _ _ s[k / 8].toNat_lt (Nat.mod_lt _ (by omega)), byte_at s (k / 8) hk, bitN]
  rw [hb.out]
  go_ret
  exact ⟨rfl, rfl⟩
set_option maxHeartbeats 1000000 in
theorem bytesOf_any (d : Nat) (w : World) (hd : d ≤ 65536) : Calls Tryd.prog 46 #[.int .i64 d] w fun e w' => e = .returned (.int .i64 (((d + 7) / 8 : Nat) : Int)) ∧ w' = w := by
  go_enter Tryd.func46, Tryd.ntmps46
  go_wp2
  go_ret
  exact ⟨by rw [Int.natCast_ediv]; rfl, rfl⟩
set_option maxHeartbeats 1000000 in
theorem EmptyText_any (w : World) : Calls Tryd.prog 60 #[] w fun e w' => e = .returned (.string ⟨#[0]⟩) ∧ w' = w := by
  go_enter Tryd.func60, Tryd.ntmps60
  go_wp2
  go_ret
  exact ⟨rfl, rfl⟩
set_option maxHeartbeats 1000000 in
theorem ValueText_any (a : ByteArray) (w : World) (h : a.size ≤ 1000) : Calls Tryd.prog 53 #[.string a] w fun e w' => e = .returned (.string ⟨(4 :: a.data.toList).toArray⟩) ∧ w' = w := by
  have e : Hid ((⟨#[4]⟩ : ByteArray) ++ a = ⟨(4 :: a.data.toList).toArray⟩) := by
    apply ByteArray.ext
    apply Array.toList_inj.1
    simp [ByteArray.data_append]
  go_enter Tryd.func53, Tryd.ntmps53
  go_wp2
  rw [e.out]
  go_ret
  exact ⟨rfl, rfl⟩
set_option maxHeartbeats 1000000 in
theorem LeafText_any (a b : ByteArray) (w : World) (h : a.size ≤ 1000) (h2 : b.size ≤ 1000) : Calls Tryd.prog 75 #[.string a, .string b] w fun e w' => e = .returned (.string ⟨(1 :: (a.data.toList ++ b.data.toList)).toArray⟩) ∧ w' = w := by
  have e : Hid ((⟨#[1]⟩ : ByteArray) ++ a ++ b = ⟨(1 :: (a.data.toList ++ b.data.toList)).toArray⟩) := by
    apply ByteArray.ext
    apply Array.toList_inj.1
    simp [ByteArray.data_append]
  go_enter Tryd.func75, Tryd.ntmps75
  go_wp2
  rw [e.out]
  go_ret
  exact ⟨rfl, rfl⟩
set_option maxHeartbeats 1000000 in
theorem NodeText_any (a b : ByteArray) (w : World) (h : a.size ≤ 1000) (h2 : b.size ≤ 1000) : Calls Tryd.prog 63 #[.string a, .string b] w fun e w' => e = .returned (.string ⟨(2 :: (a.data.toList ++ b.data.toList)).toArray⟩) ∧ w' = w := by
  have e : Hid ((⟨#[2]⟩ : ByteArray) ++ a ++ b = ⟨(2 :: (a.data.toList ++ b.data.toList)).toArray⟩) := by
    apply ByteArray.ext
    apply Array.toList_inj.1
    simp [ByteArray.data_append]
  go_enter Tryd.func63, Tryd.ntmps63
  go_wp2
  rw [e.out]
  go_ret
  exact ⟨rfl, rfl⟩

set_option maxHeartbeats 1000000 in
theorem marked_any (s : ByteArray) (d : Nat) (w : World) (hs : s.size ≤ 65536) :
    Calls Tryd.prog 47 #[.string s, .int .i64 d] w fun e w' => w' = w ∧ ∃ b : Bool, e = .returned (.bool b) ∧ (b = true → ∃ i, d ≤ i ∧ i < 8 * s.size ∧ bitN s.data.toList i = 1) ∧ (b = false → ∀ i, d ≤ i → i < 8 * s.size → bitN s.data.toList i = 0) := by
  go_enter Tryd.func47, Tryd.ntmps47
  go_wp2_with fail
  go_loopg [5] (8 * s.size - d) (fun q i wr => ∃ j : Nat, (8 * s.size - j) = q ∧ d ≤ j ∧ i = .int .i64 (j : Int) ∧ (∀ i, d ≤ i → i < j → bitN s.data.toList i = 0) ∧ wr = w)
  case atStart => exact ⟨d, rfl, Nat.le_refl _, rfl, fun i h1 h2 => by omega, rfl⟩
  case round =>
    obtain ⟨j, hj, hd, rfl, c0, rfl⟩ := hrel
    have C0 : Hid (∀ i, d ≤ i → i < j → bitN s.data.toList i = 0) := c0
    clear c0
    by_cases hlt : j < 8 * s.size
    · go_wp2_with fail
      refine (pbit_any s j wr (by omega) (by omega) (by omega)).mono ?_
      rintro e w2 ⟨rfl, hw2⟩
      obtain rfl : wr = w2 := hw2.symm
      clear hw2
      have hbn := bitN_lt s.data.toList j
      generalize hbv : bitN s.data.toList j = b at *
      have Hbv : Hid (bitN s.data.toList j = b) := hbv
      clear hbv
      rcases hbn with rfl | rfl
      · go_wp2
        go_roundg (8 * s.size - (j + 1))
        case measure => omega
        case rel =>
          go_light
          refine ⟨j + 1, rfl, by omega, by go_num, fun i h1 h2 => ?_, rfl⟩
          by_cases hij : i = j
          · rw [hij]; exact Hbv.out
          · exact C0.out i h1 (by omega)
      · go_wp2
        go_ret
        exact ⟨rfl, true, rfl, fun _ => ⟨j, hd, hlt, Hbv.out⟩, (fun h => by cases h)⟩
    · go_wp2
      go_ret
      exact ⟨rfl, false, rfl, (fun h => by cases h), fun _ i h1 h2 => C0.out i h1 (by omega)⟩
set_option maxHeartbeats 1000000 in
theorem sameStart_any (s t : ByteArray) (d : Nat) (w : World) (hs : s.size = 32) (ht : t.size = 32) (hd : d ≤ 256) :
    Calls Tryd.prog 49 #[.string s, .string t, .int .i64 d] w fun e w' => w' = w ∧ ∃ b : Bool, e = .returned (.bool b) ∧ (b = true ↔ ∀ i, i < d → bitN s.data.toList i = bitN t.data.toList i) := by
  go_enter Tryd.func49, Tryd.ntmps49
  go_wp2_with fail
  go_loopg [9] d (fun q i wr => ∃ j : Nat, j + q = d ∧ i = .int .i64 (j : Int) ∧ (∀ i, i < j → bitN s.data.toList i = bitN t.data.toList i) ∧ wr = w)
  case atStart => exact ⟨0, by omega, rfl, fun i h => by omega, rfl⟩
  case round =>
    obtain ⟨j, hj, rfl, c0, rfl⟩ := hrel
    have C0 : Hid (∀ i, i < j → bitN s.data.toList i = bitN t.data.toList i) := c0
    clear c0
    by_cases hlt : j < d
    · go_wp2_with fail
      refine (pbit_any s j wr (by omega) (by omega) (by omega)).mono ?_
      rintro e w2 ⟨rfl, hw2⟩
      obtain rfl : wr = w2 := hw2.symm
      clear hw2
      have hbn := bitN_lt s.data.toList j
      generalize hbv : bitN s.data.toList j = b at *
      have Hbv : Hid (bitN s.data.toList j = b) := hbv
      clear hbv
      go_wp2_with fail
      refine (pbit_any t j wr (by omega) (by omega) (by omega)).mono ?_
      rintro e w2 ⟨rfl, hw2⟩
      obtain rfl : wr = w2 := hw2.symm
      clear hw2
      have hbn2 := bitN_lt t.data.toList j
      generalize hbv2 : bitN t.data.toList j = c at *
      have Hbv2 : Hid (bitN t.data.toList j = c) := hbv2
      clear hbv2
      by_cases hbc : b = c
      · subst hbc
        go_wp2
        go_roundg (d - (j + 1))
        case measure => omega
        case rel =>
          go_light
          refine ⟨j + 1, by omega, by go_num, fun i h => ?_, rfl⟩
          by_cases hij : i = j
          · rw [hij, Hbv.out, Hbv2.out]
          · exact C0.out i (by omega)
      · have hq : (decide (b = 1) == decide (c = 1)) = false := by rcases hbn with rfl | rfl <;> rcases hbn2 with rfl | rfl <;> first | rfl | exact absurd rfl hbc
        have hbc' : Hid (¬ b = c) := hbc
        have hq2 : (decide (b = 1) != decide (c = 1)) = true := by simp only [bne, hq]; rfl
        clear hbc
        go_wp2
        go_ret
        refine ⟨rfl, false, rfl, (fun h => by cases h), fun h => ?_⟩
        have := h j hlt
        rw [Hbv.out, Hbv2.out] at this
        exact absurd this hbc'.out
    · go_wp2
      go_ret
      exact ⟨rfl, true, rfl, fun _ => fun i h => C0.out i (by omega), fun _ => rfl⟩
end Go.Proofs.YtghpcgagijhlaaaDoor
