/- P3, the statement Digests, as a contract: for every width and every text of at most 2^47 - 4096 bytes thicketlaw.Digests returns true and touches nothing that was in memory; the two tables lie in memory as the program's text lays them. -/
import Derived.Test.YtghpcgagijhlaaaDoorOf
import Derived.Test.YtghpcgagijhlaaaDoorRefH
import Derived.Test.YtghpcgagijhlaaaDoorKnown
namespace Go.Proofs.YtghpcgagijhlaaaDoor
open Go.RowKit Sha

def dig (k : Nat) (l : List UInt8) : ByteArray := ⟨((sha l).take k).toArray⟩

set_option maxHeartbeats 400000 in
theorem num_any (n : Int) (w : World) : Calls Tryd.prog 11 #[.int .i64 n] w fun e w' => e = .returned (.int .i64 n) ∧ w' = w := by
  go_enter Tryd.func11, Tryd.ntmps11
  go_wp2
  go_ret
  exact ⟨rfl, rfl⟩
set_option maxHeartbeats 400000 in
theorem isWidth_yes (n : Int) (w : World) (h1 : 1 ≤ n) (h2 : n ≤ 32) : Calls Tryd.prog 24 #[.int .i64 n] w fun e w' => e = .returned (.bool true) ∧ w' = w := by
  go_enter Tryd.func24, Tryd.ntmps24
  go_wp2
  go_ret
  exact ⟨by simp, rfl⟩
set_option maxHeartbeats 400000 in
theorem isWidth_no (n : Int) (w : World) (h : n < 1 ∨ 32 < n) : Calls Tryd.prog 24 #[.int .i64 n] w fun e w' => e = .returned (.bool false) ∧ w' = w := by
  rcases h with h | h
  · go_enter Tryd.func24, Tryd.ntmps24
    go_wp2
    go_ret
    exact ⟨rfl, rfl⟩
  · have h' : 1 ≤ n := by omega
    go_enter Tryd.func24, Tryd.ntmps24
    go_wp2
    go_ret
    exact ⟨by simp; omega, rfl⟩
set_option maxHeartbeats 400000 in
theorem digest_yes (k : Nat) (m : ByteArray) (w : World) (hk1 : 1 ≤ k) (hk2 : k ≤ 32) (hm : m.size ≤ 140737488351232) (hT : Tabs w) :
    Calls Tryd.prog 9 #[.int .i64 k, .string m] w fun e w' => e = .returned (.tuple #[.string (dig k m.data.toList), .int .i64 0]) ∧ Below w.heap.size w w' := by
  have HT : Hid (Tabs w) := hT
  clear hT
  go_enter Tryd.func9, Tryd.ntmps9
  go_wp2_with (first
    | (go_at_call 24; refine (isWidth_yes _ _ (by omega) (by omega)).mono ?_; rintro e w' ⟨rfl, rfl⟩)
    | (go_at_call 25; refine (Of_any k m _ hk1 hk2 hm HT.out).mono ?_; rintro e w' ⟨rfl, hb⟩))
  go_ret2
  exact ⟨rfl, hb⟩
set_option maxHeartbeats 400000 in
theorem digest_no (k : Int) (m : ByteArray) (w : World) (h : k < 1 ∨ 32 < k) :
    Calls Tryd.prog 9 #[.int .i64 k, .string m] w fun e w' => e = .returned (.tuple #[.string ⟨#[]⟩, .int .i64 1]) ∧ w' = w := by
  go_enter Tryd.func9, Tryd.ntmps9
  go_wp2_with (go_at_call 24; refine (isWidth_no _ _ h).mono ?_; rintro e w' ⟨rfl, rfl⟩)
  go_ret2
  exact ⟨rfl, rfl⟩
set_option maxHeartbeats 400000 in
theorem ref_yes (k : Nat) (m : ByteArray) (w : World) (hk1 : 1 ≤ k) (hk2 : k ≤ 32) (hm : m.size ≤ 140737488351232) :
    Calls Tryd.prog 10 #[.int .i64 k, .string m] w fun e w' => e = .returned (.tuple #[.string (dig k m.data.toList), .int .i64 0]) ∧ Below w.heap.size w w' := by
  go_enter Tryd.func10, Tryd.ntmps10
  go_wp2_with (go_at_call 26; refine (H_any k m _ hk1 hk2 hm).mono ?_; rintro e w' ⟨rfl, hb⟩)
  go_ret2
  exact ⟨rfl, hb⟩
set_option maxHeartbeats 400000 in
theorem ref_no (k : Int) (m : ByteArray) (w : World) (h : k < 1 ∨ 32 < k) :
    Calls Tryd.prog 10 #[.int .i64 k, .string m] w fun e w' => e = .returned (.tuple #[.string ⟨#[]⟩, .int .i64 1]) ∧ w' = w := by
  rcases h with h | h
  · go_enter Tryd.func10, Tryd.ntmps10
    go_wp2
    go_ret2
    exact ⟨rfl, rfl⟩
  · have h' : ¬ k < 1 := by omega
    go_enter Tryd.func10, Tryd.ntmps10
    go_wp2
    go_ret2
    exact ⟨rfl, rfl⟩

def abcS : ByteArray := ⟨#[97, 98, 99]⟩
theorem dig_abc32 : dig 32 [97, 98, 99] = ⟨#[186, 120, 22, 191, 143, 1, 207, 234, 65, 65, 64, 222, 93, 174, 34, 35, 176, 3, 97, 163, 150, 23, 122, 156, 180, 16, 255, 97, 242, 0, 21, 173]⟩ := by
  rw [dig, sha_abc]; rfl
theorem dig_abc2 : dig 2 [97, 98, 99] = ⟨#[186, 120]⟩ := by rw [dig, sha_abc]; rfl

set_option maxRecDepth 100000 in
set_option maxHeartbeats 1000000 in
theorem shown_any (w : World) (hT : Tabs w) : Calls Tryd.prog 8 #[] w fun e w' => e = .returned (.bool true) ∧ Below w.heap.size w w' := by
  have HT : Hid (Tabs w) := hT
  clear hT
  go_enter Tryd.func8, Tryd.ntmps8
  go_wp2_with fail
  refine (digest_yes 32 ⟨#[97, 98, 99]⟩ _ (by omega) (by omega) (by decide) HT.out).mono ?_
  rintro e w1 ⟨rfl, hb1⟩
  rw [show dig 32 (⟨#[97, 98, 99]⟩ : ByteArray).data.toList = dig 32 [97, 98, 99] from rfl, dig_abc32]
  go_wp2_with fail
  refine (digest_yes 2 ⟨#[97, 98, 99]⟩ _ (by omega) (by omega) (by decide) (HT.out.below hb1 (Nat.le_refl _))).mono ?_
  rintro e w2 ⟨rfl, hb2⟩
  rw [show dig 2 (⟨#[97, 98, 99]⟩ : ByteArray).data.toList = dig 2 [97, 98, 99] from rfl, dig_abc2]
  go_wp2_with fail
  refine (digest_no 33 ⟨#[97, 98, 99]⟩ _ (by omega)).mono ?_
  rintro e w3 ⟨rfl, rfl⟩
  go_wp2_with (go_at_call 11; refine (num_any _ _).mono ?_; rintro e w' ⟨rfl, rfl⟩)
  go_ret
  exact ⟨rfl, hb1.trans (hb2.mono hb1.size)⟩

set_option maxRecDepth 100000 in
set_option maxHeartbeats 1000000 in
theorem Digests_any (k : Int) (m : ByteArray) (w : World) (hm : m.size ≤ 140737488351232) (hT : Tabs w) :
    Calls Tryd.prog 3 #[.int .i64 k, .string m] w fun e w' => e = .returned (.bool true) ∧ Below w.heap.size w w' := by
  have HT : Hid (Tabs w) := hT
  clear hT
  by_cases hk : 1 ≤ k ∧ k ≤ 32
  · obtain ⟨hk1, hk2⟩ := hk
    obtain ⟨n, rfl⟩ := Int.eq_ofNat_of_zero_le (show 0 ≤ k from by omega)
    go_enter Tryd.func3, Tryd.ntmps3
    go_wp2_with fail
    refine (shown_any _ HT.out).mono ?_
    rintro e w1 ⟨rfl, hb1⟩
    go_wp2_with fail
    refine (digest_yes n m _ (by omega) (by omega) hm (HT.out.below hb1 (Nat.le_refl _))).mono ?_
    rintro e w2 ⟨rfl, hb2⟩
    go_wp2_with fail
    refine (ref_yes n m _ (by omega) (by omega) hm).mono ?_
    rintro e w3 ⟨rfl, hb3⟩
    go_wp2_with (go_at_call 11; refine (num_any _ _).mono ?_; rintro e w' ⟨rfl, rfl⟩)
    go_ret
    exact ⟨rfl, (hb1.trans (hb2.mono hb1.size)).trans (hb3.mono (Nat.le_trans hb1.size hb2.size))⟩
  · have hk' : k < 1 ∨ 32 < k := by omega
    have Hk : Hid (k < 1 ∨ 32 < k) := hk'
    clear hk' hk
    go_enter Tryd.func3, Tryd.ntmps3
    go_wp2_with fail
    refine (shown_any _ HT.out).mono ?_
    rintro e w1 ⟨rfl, hb1⟩
    go_wp2_with fail
    refine (digest_no k m _ Hk.out).mono ?_
    rintro e w2 ⟨rfl, rfl⟩
    go_wp2_with fail
    refine (ref_no k m _ Hk.out).mono ?_
    rintro e w3 ⟨rfl, rfl⟩
    go_wp2_with (go_at_call 11; refine (num_any _ _).mono ?_; rintro e w' ⟨rfl, rfl⟩)
    go_ret
    exact ⟨rfl, hb1⟩
end Go.Proofs.YtghpcgagijhlaaaDoor
