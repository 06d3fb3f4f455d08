/- What thicketkeep's small functions answer (valueOf, sealed, sibling, bit), for every number; nothing that was in memory turns. -/
import Derived.Test.YtghpcgagijhlaaaDoorKeep
namespace Go.Proofs.YtghpcgagijhlaaaDoor
open Go.RowKit Sha

/-- a value out of a raw number -/
def valOf (n : Int) : List UInt8 := List.replicate ((pickZ n 30).toNat % 5) (UInt8.ofNat (97 + (pickZ n 30).toNat))
theorem valOf_length (n : Int) : (valOf n).length ≤ 4 := by rw [valOf, List.length_replicate]; omega

set_option maxRecDepth 100000 in
set_option maxHeartbeats 1000000 in
theorem valueOf_any (n : Int) (w : World) (h1 : -9223372036854775808 ≤ n) (h2 : n ≤ 9223372036854775807) :
    Calls Tryd.prog 20 #[.int .i64 n] w fun e w' => e = .returned (.string ⟨(valOf n).toArray⟩) ∧ Below w.heap.size w w' := by
  go_enter Tryd.func20, Tryd.ntmps20
  go_wp2_with fail
  refine (pick_any n 30 w h1 h2 (by omega) (by omega)).mono ?_
  rintro e w2 ⟨rfl, hw2⟩
  obtain rfl : w = w2 := hw2.symm
  clear hw2
  obtain ⟨m, hm, hm30⟩ := pickZ_nat n 30 (by omega)
  have Hm : Hid (pickZ n 30 = (m : Int)) := hm
  rw [show pickZ n 30 = (m : Int) from hm]
  clear hm
  have HV : Hid (valOf n = List.replicate (m % 5) (UInt8.ofNat (97 + m))) := by show _ = _; rw [valOf, Hm.out]; rfl
  have hb : (97 : Int) + (m : Int) = ((UInt8.ofNat (97 + m)).toNat : Int) := by rw [UInt8.toNat_ofNat']; omega
  have Hb : Hid ((97 : Int) + (m : Int) = ((UInt8.ofNat (97 + m)).toNat : Int)) := hb
  clear hb
  obtain ⟨r, hr⟩ : ∃ r : Nat, r = m % 5 := ⟨_, rfl⟩
  have hri : (m : Int) % 5 = (r : Int) := by omega
  have hr5 : r < 5 := by omega
  rw [← hr] at HV
  clear hr
  generalize UInt8.ofNat (97 + m) = b at *
  have hlb := b.toNat_lt
  go_wp2
  go_loopg [4, 5] r (fun q x i wr => ∃ j : Nat, j + q = r ∧ i = .int .i64 (j : Int) ∧ x = .string ⟨(List.replicate j b).toArray⟩ ∧ Below w.heap.size w wr)
  case atStart => exact ⟨0, by omega, rfl, rfl, Below.refl _ _⟩
  case round =>
    obtain ⟨j, hj, rfl, rfl, c1⟩ := hrel
    have C1 : Hid (Below w.heap.size w wr) := c1
    clear c1
    by_cases hlt : j < r
    · have hsz : (⟨(List.replicate j b).toArray⟩ : ByteArray).size = j := by show (List.replicate j b).length = j; simp
      have hst : (convert 42 9 (.slice (some ⟨wr.heap.size, 0, none⟩) 1 1)).run Tryd.prog (wr.alloc (.cells #[.int .u8 (b.toNat : Int)] 5)) = .ok (.string ⟨#[b]⟩) (wr.alloc (.cells #[.int .u8 (b.toNat : Int)] 5)) := str_row (l := [b]) (Blk.new _ _ _) 1
      have ha : Hid ((⟨(List.replicate j b).toArray⟩ : ByteArray) ++ ⟨#[b]⟩ = ⟨(List.replicate (j + 1) b).toArray⟩) := by
        apply ByteArray.ext
        apply Array.toList_inj.1
        simp [ByteArray.data_append, List.replicate_succ']
      have hbb := Hb.out
      generalize (⟨(List.replicate j b).toArray⟩ : ByteArray) = X at *
      go_wp2
      go_roundg (r - (j + 1))
      case measure => omega
      case rel =>
        go_light
        exact ⟨j + 1, by omega, by go_num, by rw [← ha.out], C1.out.alloc C1.out.size _⟩
    · obtain rfl : j = r := by omega
      go_wp2
      go_ret
      exact ⟨by rw [HV.out]; rfl, C1.out⟩

set_option maxHeartbeats 1000000 in
theorem sealed_any (k : Nat) (s : ByteArray) (w : World) (hk1 : 1 ≤ k) (hk2 : k ≤ 32) (hs : s.size ≤ 140737488351232) (hT : Tabs w) :
    Calls Tryd.prog 30 #[.int .i64 k, .string s] w fun e w' => e = .returned (.string ⟨(dg k s.data.toList).toArray⟩) ∧ Below w.heap.size w w' := by
  go_enter Tryd.func30, Tryd.ntmps30
  go_wp2_with fail
  refine (digest_yes k s w hk1 hk2 hs hT).mono ?_
  rintro e w1 ⟨rfl, hb⟩
  have B : Hid (Below w.heap.size w w1) := hb
  clear hb hT
  rw [dig_dg]
  go_wp2
  go_ret
  exact ⟨rfl, B.out⟩

theorem byte_shift (y : UInt8) (r : Nat) : (wrap64 (y.toNat : Int) / 2 ^ r).tmod 2 = ((y.toNat / 2 ^ r % 2 : Nat) : Int) := by
  rw [wrap64_b, show ((2 : Int) ^ r) = ((2 ^ r : Nat) : Int) by rw [Int.natCast_pow]; rfl, ← Int.natCast_ediv, Int.tmod_eq_emod_of_nonneg (Int.natCast_nonneg _)]
  rfl
set_option maxHeartbeats 1000000 in
theorem kbit_any (s : ByteArray) (k : Nat) (w : World) (hk : k / 8 < s.size) (hs : s.size ≤ 1000) (hk2 : k ≤ 1000) :
    Calls Tryd.prog 32 #[.string s, .int .i64 k] w fun e w' => e = .returned (.int .i64 (bitN s.data.toList k : Nat)) ∧ w' = w := by
  have hb : Hid (s[k / 8].toNat = (s.data.toList.getD (k / 8) 0).toNat) := by show _ = _; rw [byte_at s (k / 8) hk]
  go_enter Tryd.func32, Tryd.ntmps32
  go_wp2
  simp only [byte_shift]
  go_ret
  exact ⟨by rw [bitN, ← hb.out]; rfl, rfl⟩

/-- a digest out of a raw number -/
def sibText (n : Int) : List UInt8 := [115, 105, 98, 108, 105, 110, 103, UInt8.ofNat (n % 256).toNat, UInt8.ofNat (n / 256 % 256).toNat]
def sibOf (k : Nat) (n : Int) : List UInt8 := if pickZ n 4 = 0 then dg k [0] else dg k (sibText n)
theorem sibOf_length (k : Nat) (n : Int) (hk : k ≤ 32) : (sibOf k n).length = k := by
  unfold sibOf
  split <;> exact dg_length k _ hk
set_option maxRecDepth 100000 in
set_option maxHeartbeats 1000000 in
theorem sibling_any (k : Nat) (n : Int) (w : World) (hk1 : 1 ≤ k) (hk2 : k ≤ 32) (h1 : -9223372036854775808 ≤ n) (h2 : n ≤ 9223372036854775807) (hT : Tabs w) :
    Calls Tryd.prog 31 #[.int .i64 k, .int .i64 n] w fun e w' => e = .returned (.string ⟨(sibOf k n).toArray⟩) ∧ Below w.heap.size w w' := by
  have HT : Hid (Tabs w) := hT
  clear hT
  go_enter Tryd.func31, Tryd.ntmps31
  go_wp2_with fail
  refine (pick_any n 4 w h1 h2 (by omega) (by omega)).mono ?_
  rintro e w2 ⟨rfl, hw2⟩
  obtain rfl : w = w2 := hw2.symm
  clear hw2
  by_cases h0 : pickZ n 4 = 0
  · have HS : Hid (sibOf k n = dg k [0]) := by show _ = _; rw [sibOf, if_pos h0]
    rw [h0]
    clear h0
    go_wp2_with fail
    refine (sealed_any k ⟨#[0]⟩ w hk1 hk2 (by decide) HT.out).mono ?_
    rintro e w3 ⟨rfl, hb⟩
    have B : Hid (Below w.heap.size w w3) := hb
    clear hb
    go_wp2
    go_ret
    exact ⟨by rw [HS.out]; rfl, B.out⟩
  · have HS : Hid (sibOf k n = dg k (sibText n)) := by show _ = _; rw [sibOf, if_neg h0]
    have hz : (pickZ n 4 == 0) = false := by rw [beq_eq_false_iff_ne]; exact h0
    clear h0
    have hx : n % 256 = ((UInt8.ofNat (n % 256).toNat).toNat : Int) := by rw [UInt8.toNat_ofNat']; omega
    have hy : n / 256 % 256 = ((UInt8.ofNat (n / 256 % 256).toNat).toNat : Int) := by rw [UInt8.toNat_ofNat']; omega
    have hst : (convert 42 9 (.slice (some ⟨w.heap.size, 0, none⟩) 2 2)).run Tryd.prog (w.alloc (.cells #[.int .u8 (n % 256), .int .u8 (n / 256 % 256)] 5)) = .ok (.string ⟨#[UInt8.ofNat (n % 256).toNat, UInt8.ofNat (n / 256 % 256).toNat]⟩) (w.alloc (.cells #[.int .u8 (n % 256), .int .u8 (n / 256 % 256)] 5)) := by
      have hB : Blk (w.alloc (.cells #[.int .u8 (n % 256), .int .u8 (n / 256 % 256)] 5)) w.heap.size 5 (u8row [UInt8.ofNat (n % 256).toNat, UInt8.ofNat (n / 256 % 256).toNat]) := by
        have := Blk.new w 5 #[.int .u8 (n % 256), .int .u8 (n / 256 % 256)]
        rw [show u8row [UInt8.ofNat (n % 256).toNat, UInt8.ofNat (n / 256 % 256).toNat] = #[.int .u8 (n % 256), .int .u8 (n / 256 % 256)] by show #[Value.int .u8 ((UInt8.ofNat (n % 256).toNat).toNat : Int), .int .u8 ((UInt8.ofNat (n / 256 % 256).toNat).toNat : Int)] = _; rw [← hx, ← hy]]
        exact this
      exact str_row hB 2
    have B0 : Hid (Below w.heap.size w (w.alloc (.cells #[.int .u8 (n % 256), .int .u8 (n / 256 % 256)] 5))) := (Below.refl _ _).alloc (Nat.le_refl _) _
    have hap : Hid ((⟨#[115, 105, 98, 108, 105, 110, 103]⟩ : ByteArray) ++ ⟨#[UInt8.ofNat (n % 256).toNat, UInt8.ofNat (n / 256 % 256).toNat]⟩ = ⟨(sibText n).toArray⟩) := by
      apply ByteArray.ext
      apply Array.toList_inj.1
      simp [ByteArray.data_append, sibText]
    have hsz : (⟨#[UInt8.ofNat (n % 256).toNat, UInt8.ofNat (n / 256 % 256).toNat]⟩ : ByteArray).size = 2 := rfl
    clear hx hy
    generalize (⟨#[UInt8.ofNat (n % 256).toNat, UInt8.ofNat (n / 256 % 256).toNat]⟩ : ByteArray) = X at *
    go_wp2_with fail
    rw [hap.out]
    refine (sealed_any k ⟨(sibText n).toArray⟩ _ hk1 hk2 (by show (sibText n).length ≤ _; simp [sibText]) (HT.out.below B0.out (Nat.le_refl _))).mono ?_
    rintro e w3 ⟨rfl, hb⟩
    have B := below_then' B0.out hb B0.out.size
    clear hb
    go_wp2
    go_ret
    exact ⟨by rw [HS.out]; rfl, B.out⟩
end Go.Proofs.YtghpcgagijhlaaaDoor
